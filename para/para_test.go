package para_test

import (
	"math"
	"math/rand"
	"reflect"
	"slices"
	"strings"
	"sync"
	"testing"

	"compositor/api"
	"compositor/para"
	"compositor/trie"
)

// hold holds Breaks, without parted words and with them, against the chapter's words, and what follows from these, and tells the error with parted words.
func hold(t *testing.T, q asked) api.Errno {
	t.Helper()
	without, _ := holdOne(t, q, false)
	with, e := holdOne(t, q, true)
	if e == api.OK {
		rest := slices.DeleteFunc(with, func(b api.Break) bool { return b.Kind == api.BHyph })
		if !slices.Equal(rest, without) {
			t.Errorf("%v: without parted words %v", q, without)
		}
	}
	return e
}

// holdOne holds Breaks against the chapter's words, and each break against the next one.
func holdOne(t *testing.T, q asked, parted bool) ([]api.Break, api.Errno) {
	t.Helper()
	want, x := breaks(q, parted)
	l, e := para.Breaks(q.trie, q.but, q.l, q.words, parted)
	if !slices.Equal(l, want) || e != x {
		t.Errorf("%v, parted %t: %v, %v, not %v, %v", q, parted, l, e, want, x)
	}
	for i := range l {
		if i > 0 && (!para.Before(l[i-1], l[i]) || para.Before(l[i], l[i-1])) {
			t.Errorf("%v, parted %t: %v does not stand before %v", q, parted, l[i-1], l[i])
		}
	}
	return l, e
}

// holdTold holds Breaks, without parted words and with them, against what is written out.
func holdTold(t *testing.T, q asked, without, with string) {
	t.Helper()
	for parted, want := range map[bool]string{false: without, true: with} {
		l, e := para.Breaks(q.trie, q.but, q.l, q.words, parted)
		if told(l) != want || e != api.OK {
			t.Errorf("%v, parted %t: %s, %v, not %s", q, parted, told(l), e, want)
		}
	}
	hold(t, q)
}

// holdError holds Breaks against an error, without parted words and with them.
func holdError(t *testing.T, q asked, x api.Errno) {
	t.Helper()
	for _, parted := range []bool{false, true} {
		if l, e := para.Breaks(q.trie, q.but, q.l, q.words, parted); len(l) != 0 || e != x {
			t.Errorf("%v, parted %t: %v, %v, not %v", q, parted, l, e, x)
		}
	}
	hold(t, q)
}

// P16.1: the chapter's example.
func TestExample(t *testing.T) {
	want := []api.Break{{}, {Kind: api.BDash, At: 2}, {Kind: api.BSpace, At: 3}, {Kind: api.BEnd, Word: 1, At: 1}}
	for _, parted := range []bool{false, true} {
		if l, e := para.Breaks(made(t), nil, parts(0, 0), words("a-b c"), parted); !slices.Equal(l, want) || e != api.OK {
			t.Errorf("%v, %v", l, e)
		}
	}
}

// P16.1: paragraphs without points: one word alone, codes 45, and words that are parted by hand.
func TestWrittenOut(t *testing.T) {
	for _, x := range [][2]string{
		{"a", "^0.0 $0.1"}, {"-", "^0.0 $0.1"}, {"ab", "^0.0 $0.2"}, {"a b", "^0.0 _0.1 $1.1"}, {"ab a abc", "^0.0 _0.2 _1.1 $2.3"}, {"- -", "^0.0 _0.1 $1.1"},
		{"-a", "^0.0 -0.1 $0.2"}, {"a-", "^0.0 $0.2"}, {"--", "^0.0 -0.1 $0.2"}, {"---", "^0.0 -0.1 -0.2 $0.3"}, {"a--b", "^0.0 -0.2 -0.3 $0.4"}, {"a---b", "^0.0 -0.2 -0.3 -0.4 $0.5"}, {"a- b", "^0.0 _0.2 $1.1"}, {"a -b", "^0.0 _0.1 -1.1 $1.2"}, {"-- --", "^0.0 -0.1 _0.2 -1.1 $1.2"},
		{"a|b", "^0.0 s0.1 $0.2"}, {"a|b|c", "^0.0 s0.1 s0.2 $0.3"}, {"ab|c d|e", "^0.0 s0.2 _0.3 s1.1 $1.2"}, {"a-|b", "^0.0 s0.2 $0.3"}, {"a|-b", "^0.0 s0.1 -0.2 $0.3"}, {"a-b|c", "^0.0 -0.2 s0.3 $0.4"}, {"a|-|b", "^0.0 s0.1 s0.2 $0.3"},
		{"-|-", "^0.0 s0.1 $0.2"}, {"-|-|-", "^0.0 s0.1 s0.2 $0.3"}, {"--|-", "^0.0 -0.1 s0.2 $0.3"}, {"a|b|-|c-d", "^0.0 s0.1 s0.2 s0.3 -0.5 $0.6"}, {"a,b.c d!", "^0.0 _0.5 $1.2"}, {",-. +", "^0.0 -0.2 _0.3 $1.1"},
	} {
		holdTold(t, asked{made(t), nil, parts(0, 0), words(x[0])}, x[1], x[1])
	}
}

// P16.1: one word alone, of as many codes as there may be, all of which are alike, and parted by hand at each place, at some, and at none.
func TestOneWord(t *testing.T) {
	for count := 1; count <= 60; count++ {
		for _, code := range []string{"a", "-", "!", "~", ",", "."} {
			w := word(times(code, count))
			hold(t, asked{made(t, of("a", 1, 1)), nil, parts(0, 0), []api.Word{w}})
			for place := 1; place < count; place++ {
				w.Soft = append(w.Soft, place)
			}
			for _, soft := range [][]int{w.Soft, w.Soft[:len(w.Soft)/2], w.Soft[len(w.Soft)/2:], w.Soft[:min(1, len(w.Soft))], w.Soft[max(0, len(w.Soft)-1):]} {
				if e := hold(t, asked{made(t, of("a", 1, 1)), nil, parts(0, 0), []api.Word{{Codes: w.Codes, Soft: soft}}}); e != api.OK {
					t.Errorf("%d of %s, %v: %v", count, code, soft, e)
				}
			}
		}
	}
}

// P16.1: all words of up to four codes, of letters, codes 45 and others, parted by hand or by points at any places.
func TestShort(t *testing.T) {
	all := []string{"a", "b", "-", "("}
	x := made(t, of("a", 0, 1), of("b", 1, 0), of("ba", 0, 2, 0))
	for range 3 {
		for _, text := range all {
			all = append(all, text+"a", text+"b", text+"-", text+"(", text+"|-", text+"|a", text+"|(")
		}
		slices.Sort(all)
		all = slices.Compact(all)
	}
	for _, text := range all {
		for _, l := range []api.Layout{parts(0, 0), parts(1, 1)} {
			hold(t, asked{x, []api.Exception{but("ab", 0, 2), but("aab", 1, 0, 3)}, l, words(text)})
		}
	}
}

// P16.1: points by patterns, of words with codes 45, and others, beside the letters, and of words that are parted by hand.
func TestPoints(t *testing.T) {
	x := made(t, of("ab", 0, 1, 0), of("bb", 0, 1, 0), of("ca", 0, 2, 0), of("abc", 0, 3, 4, 0))
	for _, c := range [][3]string{
		{"ab", "^0.0 $0.2", "^0.0 h0.1 $0.2"}, {"abb", "^0.0 $0.3", "^0.0 h0.1 h0.2 $0.3"}, {"abc", "^0.0 $0.3", "^0.0 h0.1 $0.3"}, {"caab", "^0.0 $0.4", "^0.0 h0.3 $0.4"}, {"AB b", "^0.0 _0.2 $1.1", "^0.0 h0.1 _0.2 $1.1"}, {"ab bb", "^0.0 _0.2 $1.2", "^0.0 h0.1 _0.2 h1.1 $1.2"},
		{"(ab)", "^0.0 $0.4", "^0.0 h0.2 $0.4"}, {"((aAb.,", "^0.0 $0.7", "^0.0 h0.4 $0.7"}, {"-ab", "^0.0 -0.1 $0.3", "^0.0 -0.1 h0.2 $0.3"}, {"ab-", "^0.0 $0.3", "^0.0 h0.1 $0.3"}, {"-ab-", "^0.0 -0.1 $0.4", "^0.0 -0.1 h0.2 $0.4"}, {"--ab--", "^0.0 -0.1 -0.2 -0.5 $0.6", "^0.0 -0.1 -0.2 h0.3 -0.5 $0.6"},
		{"ab-ab", "^0.0 -0.3 $0.5", "^0.0 -0.3 $0.5"}, {"a-b", "^0.0 -0.2 $0.3", "^0.0 -0.2 $0.3"}, {"ab'b", "^0.0 $0.4", "^0.0 $0.4"}, {"ab--.", "^0.0 -0.3 -0.4 $0.5", "^0.0 h0.1 -0.3 -0.4 $0.5"}, {"1ab", "^0.0 $0.3", "^0.0 h0.2 $0.3"},
		{"ab|b", "^0.0 s0.2 $0.3", "^0.0 s0.2 $0.3"}, {"a|bb", "^0.0 s0.1 $0.3", "^0.0 s0.1 $0.3"}, {"abb-|1", "^0.0 s0.4 $0.5", "^0.0 s0.4 $0.5"}, {"ab|b abb", "^0.0 s0.2 _0.3 $1.3", "^0.0 s0.2 _0.3 h1.1 h1.2 $1.3"}, {"abb ab|b", "^0.0 _0.3 s1.2 $1.3", "^0.0 h0.1 h0.2 _0.3 s1.2 $1.3"}, {"-|ab", "^0.0 s0.1 $0.3", "^0.0 s0.1 $0.3"}, {"-|ab- ab", "^0.0 s0.1 _0.4 $1.2", "^0.0 s0.1 _0.4 h1.1 $1.2"},
		{times("a", 39) + "b", "^0.0 $0.40", "^0.0 h0.39 $0.40"}, {times("a", 40) + "b", "^0.0 $0.41", "^0.0 $0.41"}, {times("(", 20) + times("a", 39) + "b", "^0.0 $0.60", "^0.0 h0.59 $0.60"},
	} {
		holdTold(t, asked{x, nil, parts(0, 0), words(c[0])}, c[1], c[2])
		holdTold(t, asked{x, nil, parts(1, 1), words(c[0])}, c[1], c[2])
		holdTold(t, asked{made(t), nil, parts(0, 0), words(c[0])}, c[1], c[1])
		holdTold(t, asked{&trie.Trie{}, nil, parts(0, 0), words(c[0])}, c[1], c[1])
	}
}

// P16.1: points by exceptions: of several places, in whatever order, one of them twice, at the word's ends and beyond them, next to a code 45 and where one stands ahead.
func TestExceptions(t *testing.T) {
	flat := made(t, of("a", 1, 1), of("b", 1, 1))
	for _, x := range []struct {
		but  []api.Exception
		text string
		with string
	}{
		{nil, "aab", "^0.0 h0.1 h0.2 $0.3"}, {[]api.Exception{but("aab")}, "aab", "^0.0 $0.3"}, {[]api.Exception{but("aab", 2)}, "aab", "^0.0 h0.2 $0.3"}, {[]api.Exception{but("aab", 1, 2)}, "aab", "^0.0 h0.1 h0.2 $0.3"}, {[]api.Exception{but("aab", 1)}, "(aab) aab", "^0.0 h0.2 _0.5 h1.1 $1.3"},
		{[]api.Exception{but("aab", 2), but("aab", 1)}, "aab", "^0.0 h0.2 $0.3"}, {[]api.Exception{but("ab", 1), but("aab", 1), but("aab")}, "AAB", "^0.0 h0.1 $0.3"}, {[]api.Exception{but("aab"), but("aab", 1, 2)}, "aab", "^0.0 $0.3"}, {[]api.Exception{but("AAB"), but("aab ", 2), but("", 2)}, "aab", "^0.0 h0.1 h0.2 $0.3"},
		{[]api.Exception{but("aab", 2, 1)}, "aab", "^0.0 h0.1 h0.2 $0.3"}, {[]api.Exception{but("aab", 2, 2, 2)}, "aab", "^0.0 h0.2 $0.3"}, {[]api.Exception{but("aabb", 3, 1, 2, 1, 3)}, "aabb", "^0.0 h0.1 h0.2 h0.3 $0.4"}, {[]api.Exception{but("aab", -1, 4, math.MinInt, math.MaxInt, 1<<32+1)}, "aab", "^0.0 $0.3"},
		{[]api.Exception{but("aab", 0)}, "aab", "^0.0 $0.3"}, {[]api.Exception{but("aab", 3)}, "aab", "^0.0 $0.3"}, {[]api.Exception{but("aab", 3, 0, 1)}, "aab", "^0.0 h0.1 $0.3"}, {[]api.Exception{but("aab", 0, 3)}, "(aab)", "^0.0 h0.1 h0.4 $0.5"}, {[]api.Exception{but("aab", 0, 3)}, "aab)", "^0.0 h0.3 $0.4"}, {[]api.Exception{but("aab", 0, 3)}, "(aab", "^0.0 h0.1 $0.4"}, {[]api.Exception{but("a", 0, 1)}, "a b a", "^0.0 _0.1 _1.1 $2.1"}, {[]api.Exception{but("a", 0, 1)}, "a.", "^0.0 h0.1 $0.2"},
		{[]api.Exception{but("ab", 0)}, "-ab", "^0.0 -0.1 $0.3"}, {[]api.Exception{but("ab", 0, 1, 2)}, "-ab-", "^0.0 -0.1 h0.2 h0.3 $0.4"}, {[]api.Exception{but("ab", 2)}, "ab-", "^0.0 h0.2 $0.3"}, {[]api.Exception{but("ab", 2)}, "ab--", "^0.0 h0.2 -0.3 $0.4"}, {[]api.Exception{but("ab", 0)}, "-(ab", "^0.0 -0.1 h0.2 $0.4"}, {[]api.Exception{but("ab", 0)}, "(-ab", "^0.0 -0.2 $0.4"},
		{[]api.Exception{but("aab", 1)}, "aa|b", "^0.0 s0.2 $0.3"}, {[]api.Exception{but("ab", 1)}, "a-b", "^0.0 -0.2 $0.3"}, {[]api.Exception{but("a-b", 1)}, "a-b", "^0.0 -0.2 $0.3"}, {[]api.Exception{but("bb", 1)}, "ab bb ab", "^0.0 h0.1 _0.2 h1.1 _1.2 h2.1 $2.2"},
	} {
		if l, e := para.Breaks(flat, x.but, parts(0, 0), words(x.text), true); told(l) != x.with || e != api.OK {
			t.Errorf("%v, %s: %s, %v, not %s", x.but, x.text, told(l), e, x.with)
		}
		for _, l := range []api.Layout{parts(0, 0), parts(1, 0), parts(0, 1), parts(2, 2)} {
			hold(t, asked{flat, x.but, l, words(x.text)})
			hold(t, asked{made(t), x.but, l, words(x.text)})
		}
	}
}

// P16.1: the least parts of a word, at all that they may be, with patterns and with exceptions.
func TestParts(t *testing.T) {
	flat := made(t, of("a", 1, 1))
	whole := but(times("a", 40))
	for place := -1; place < 42; place++ {
		whole.At = append(whole.At, place)
	}
	all := words("a aa (aaa) -aaaa- b " + times("a", 40) + " " + times("a", 41) + " ." + times("A", 40) + ", a|aa aa-aa")
	for left := range 41 {
		for right := range 41 {
			if left > 4 && left < 36 && right > 4 && right < 36 && left+right != 40 {
				continue
			}
			if e := hold(t, asked{flat, nil, parts(left, right), all}); e != api.OK {
				t.Errorf("%d, %d: %v", left, right, e)
			}
			hold(t, asked{flat, []api.Exception{whole}, parts(left, right), all})
		}
	}
	for _, x := range []struct {
		left, right int
		with        string
	}{
		{0, 0, "^0.0 h0.1 h0.2 h0.3 $0.4"}, {1, 1, "^0.0 h0.1 h0.2 h0.3 $0.4"}, {2, 1, "^0.0 h0.2 h0.3 $0.4"}, {1, 2, "^0.0 h0.1 h0.2 $0.4"}, {2, 2, "^0.0 h0.2 $0.4"}, {3, 1, "^0.0 h0.3 $0.4"}, {1, 3, "^0.0 h0.1 $0.4"}, {3, 2, "^0.0 $0.4"}, {4, 0, "^0.0 $0.4"}, {0, 4, "^0.0 $0.4"}, {40, 40, "^0.0 $0.4"},
	} {
		holdTold(t, asked{flat, nil, parts(x.left, x.right), words("aaaa")}, "^0.0 $0.4", x.with)
	}
}

// P16.1: no trie is told ahead of all else, whether words are to be parted or not (R1).
func TestNoTrie(t *testing.T) {
	for _, q := range []asked{{nil, nil, parts(0, 0), words("a")}, {nil, []api.Exception{but("ab", 1)}, plain(2), words("ab a|b-")}, {nil, nil, api.Layout{}, words("a")}, {nil, nil, parts(0, 0), nil}, {}, {nil, nil, parts(0, 0), words(times(times("-", 60)+" ", 4))}, {nil, nil, api.Layout{}, wrongWords()[2]}} {
		holdError(t, q, api.ErrArg)
	}
}

// P16.1: words that may not be, in each way, are told ahead of a layout that may not be, and of too many breaks.
func TestWrongWords(t *testing.T) {
	x := made(t, of("a", 1, 1))
	for _, l := range wrongWords() {
		for _, layout := range []api.Layout{parts(0, 0), plain(2), {}, parts(-1, 41)} {
			holdError(t, asked{x, []api.Exception{but("ab", 1)}, layout, l}, api.ErrText)
		}
	}
}

// P16.1: layouts that may not be, by each of their numbers, are told ahead of too many breaks.
func TestWrongLayouts(t *testing.T) {
	x := made(t, of("a", 1, 1))
	for _, l := range wrongLayouts() {
		for _, text := range []string{"a", "ab a-b a|b", times(times("-", 60)+" ", 4), times(times("a", 40)+" ", 10)} {
			holdError(t, asked{x, nil, l, words(text)}, api.ErrParam)
		}
	}
}

// P16.1: as many breaks as there are at most, one less and one more, out of many words, of many places by hand, of many codes 45, and of many points.
func TestMaxBreaks(t *testing.T) {
	flat := made(t, of("a", 1, 1))
	forty := but(times("b", 40))
	for place := 1; place < 40; place++ {
		forty.At = append(forty.At, place, 40-place)
	}
	byHand := func(count int) string { return strings.Trim(times("c|", count), "|") }
	for _, x := range []struct {
		text string
		more int
	}{
		{times("c|d ", 98) + "e f", 0}, {times("c|d ", 99) + "e", 1}, {times("c|d ", 100), 2}, {"e " + times("- --- ", 49) + "c", 0}, {"e " + times("- --- ", 49) + "c|d", 1}, {"e " + times("- --- ", 49) + "---", 2},
		{times(byHand(60)+" ", 3) + byHand(18), 0}, {times(byHand(60)+" ", 3) + byHand(19), 1}, {times(byHand(60)+" ", 3) + byHand(20), 2}, {times(byHand(60)+" ", 6), 162},
		{times(times("-", 60)+" ", 3) + times("-", 18), 0}, {times(times("-", 60)+" ", 3) + times("-", 19), 1}, {times(times("-", 60)+" ", 3) + times("-", 20), 2}, {times(times("-", 60)+" ", 6), 162}, {times("-|", 59) + "- " + times(times("-", 60)+" ", 2) + times("-", 20), 2}, {times("-|", 59) + "- " + times(times("-", 60)+" ", 2) + times("-", 19), 1},
		{times(times("a", 40)+" ", 4) + times("a", 38), 0}, {times(times("a", 40)+" ", 4) + times("a", 39), 1}, {times(times("a", 40)+" ", 5), 2}, {times(times("a", 40)+" ", 10), 202},
		{times(times("b", 40)+" ", 4) + times("a", 38), 0}, {times(times("b", 40)+" ", 4) + times("a", 39), 1}, {times(times("b", 40)+" ", 4) + times("a", 40), 2}, {times(times("b", 40)+" ", 5), 2}, {times("."+times("b", 40)+". ", 5), 2}, {times("."+times("b", 40)+". ", 4) + times("a", 39), 1},
	} {
		q := asked{flat, []api.Exception{forty}, parts(0, 0), words(x.text)}
		l, e := para.Breaks(q.trie, q.but, q.l, q.words, true)
		if x.more < 2 && (len(l) != 199+x.more || e != api.OK) || x.more >= 2 && (len(l) != 0 || e != api.ErrBig) {
			t.Errorf("%s: %d, %v, not %d", x.text, len(l), e, 199+x.more)
		}
		hold(t, q)
		if strings.ContainsAny(x.text, "|-") {
			if _, f := para.Breaks(q.trie, q.but, q.l, q.words, false); e != f {
				t.Errorf("%s: %v without parted words, %v with them", x.text, f, e)
			}
		} else if l, e := para.Breaks(q.trie, q.but, q.l, q.words, false); len(l) != len(q.words)+1 || e != api.OK {
			t.Errorf("%s: %d, %v", x.text, len(l), e)
		}
	}
}

// P16.1, P16.3: paragraphs of all kinds.
func TestSome(t *testing.T) {
	told := map[api.Errno]int{}
	kinds := map[int]int{}
	for _, q := range some(t, 1500) {
		told[hold(t, q)]++
		l, _ := para.Breaks(q.trie, q.but, q.l, q.words, true)
		for _, b := range l {
			kinds[b.Kind]++
		}
	}
	if told[api.OK] < 1000 || told[api.ErrBig] < 20 || told[api.ErrText] < 10 || told[api.ErrParam] < 10 || len(kinds) != 6 {
		t.Errorf("they are of too few kinds: %v, %v", told, kinds)
	}
}

// P16.1: a layout has a say by its Left and its Right alone.
func TestLayout(t *testing.T) {
	for _, q := range some(t, 200) {
		l, e := para.Breaks(q.trie, q.but, q.l, q.words, true)
		for _, x := range limits {
			for _, n := range []int{x.least, x.most} {
				o := q
				*field(&o.l, x.name) = n
				if x.name == "Width" {
					o.l.Hang = 0
				}
				hold(t, o)
				if k, f := para.Breaks(o.trie, o.but, o.l, o.words, true); x.name != "Left" && x.name != "Right" && layoutMayBe(q.l) && (!slices.Equal(k, l) || f != e) {
					t.Errorf("%v, %s %d: %v, %v, not %v, %v", q, x.name, n, k, f, l, e)
				}
			}
		}
	}
}

// P16.2: Before, of breaks of all kinds, and of what is none, at words and places that are less, the same and greater.
func TestBefore(t *testing.T) {
	var all []api.Break
	for _, kind := range []int{math.MinInt, -1, 0, 1, 2, 3, 4, 5, 6, 1 << 32, math.MaxInt} {
		for _, word := range []int{math.MinInt, -1, 0, 1, math.MaxInt} {
			for _, place := range []int{math.MinInt, 0, 1, 2, math.MaxInt} {
				all = append(all, at(kind, word, place))
			}
		}
	}
	for _, a := range all {
		for _, b := range all {
			if para.Before(a, b) != before(a, b) {
				t.Errorf("%v, %v: %t", a, b, para.Before(a, b))
			}
		}
	}
	for _, x := range []struct {
		a, b       api.Break
		is, isBack bool
	}{
		{at(0, 0, 0), at(0, 0, 0), false, false}, {at(0, 0, 0), at(0, 1, 1), false, false}, {at(0, 0, 0), at(5, 0, 0), true, false}, {at(0, 9, 9), at(1, 0, 0), true, false}, {at(0, math.MaxInt, math.MaxInt), at(-1, math.MinInt, math.MinInt), true, false},
		{at(1, 0, 3), at(2, 1, 1), true, false}, {at(5, 0, 3), at(1, 0, 4), true, false}, {at(3, 2, 2), at(4, 2, 2), false, false}, {at(4, 2, 2), at(4, 2, 2), false, false}, {at(1, 1, 9), at(1, 2, 1), true, false}, {at(1, math.MinInt, 0), at(1, math.MaxInt, 0), true, false}, {at(1, 1, math.MinInt), at(1, 1, math.MaxInt), true, false},
	} {
		if para.Before(x.a, x.b) != x.is || para.Before(x.b, x.a) != x.isBack {
			t.Errorf("%v, %v: %t, %t", x.a, x.b, para.Before(x.a, x.b), para.Before(x.b, x.a))
		}
	}
}

// P16.2: Penalty, of breaks of all kinds, and of what is none, by layouts that may be, and others.
func TestPenalty(t *testing.T) {
	for _, hyph := range []int{math.MinInt, -1001, -1000, -1, 0, 1, 50, 1000, 1001, math.MaxInt} {
		for _, dash := range []int{math.MinInt, -1001, -1000, -2, 0, 2, 70, 1000, 1001, math.MaxInt} {
			for _, l := range []api.Layout{plain(0), plain(41), {}} {
				l.HyphPen, l.DashPen = hyph, dash
				for kind, want := range map[int]int{api.BStart: 0, api.BSpace: 0, api.BHyph: hyph, api.BSoft: hyph, api.BDash: dash, api.BEnd: 0, -1: 0, 6: 0, -2: 0, 7: 0, 1<<32 + 2: 0, 1<<32 + 4: 0, math.MinInt: 0, math.MinInt + 2: 0, math.MaxInt: 0} {
					for _, b := range []api.Break{at(kind, 0, 0), at(kind, 3, 2), at(kind, math.MinInt, math.MaxInt)} {
						if n := para.Penalty(l, b); n != want {
							t.Errorf("%d, %d, %v: %d, not %d", hyph, dash, b, n, want)
						}
					}
				}
			}
		}
	}
}

// R1, for P16.1: what is long ends, too.
func TestLong(t *testing.T) {
	x := made(t, of("a", 1, 1))
	long := slices.Repeat([]int{'a'}, 1<<21)
	for _, l := range [][]api.Word{slices.Repeat(words("a-b"), 1<<20), {{Codes: long}}, {{Codes: long[:60], Soft: long}}, append(words("a"), api.Word{Codes: long, Soft: long})} {
		holdError(t, asked{x, nil, parts(0, 0), l}, api.ErrText)
	}
	shaped := parts(0, 0)
	shaped.Shape = slices.Repeat([]api.Line{{Indent: 1, Width: 1}}, 1<<20)
	holdError(t, asked{x, nil, shaped, words("a")}, api.ErrParam)
	many := slices.Repeat([]api.Exception{but("b", 1)}, 1<<18)
	holdTold(t, asked{x, append(many, but("aab", 2)), parts(0, 0), words("aab b")}, "^0.0 _0.3 $1.1", "^0.0 h0.2 _0.3 $1.1")
	holdTold(t, asked{x, []api.Exception{but("aab", slices.Repeat([]int{2, 0, 9, 1, -7}, 1<<18)...)}, parts(0, 0), words("aab")}, "^0.0 $0.3", "^0.0 h0.1 h0.2 $0.3")
	holdTold(t, asked{x, []api.Exception{but(times("a", 1<<20), 1), but("aa")}, parts(0, 0), words("aa")}, "^0.0 $0.2", "^0.0 $0.2")
}

// R4, for P16.1: lists without elements may be nil or not.
func TestNil(t *testing.T) {
	x := made(t, of("a", 1, 1))
	for _, list := range [][]api.Exception{nil, {}, make([]api.Exception, 0, 3), []api.Exception{but("aa", 1)}[:0]} {
		for _, soft := range [][]int{nil, {}, make([]int, 0, 3), []int{1, 2}[:0]} {
			for _, shape := range [][]api.Line{nil, {}, make([]api.Line, 0, 3)} {
				l := parts(0, 0)
				l.Shape = shape
				q := asked{x, list, l, []api.Word{{Codes: []int{'a', 'a'}, Soft: soft}}}
				holdTold(t, q, "^0.0 $0.2", "^0.0 h0.1 $0.2")
				q.but = []api.Exception{{Word: "aa", At: soft}}
				holdTold(t, q, "^0.0 $0.2", "^0.0 $0.2")
				q.words[0].Codes = soft[:0]
				holdError(t, q, api.ErrText)
			}
		}
	}
	holdError(t, asked{x, nil, parts(0, 0), []api.Word{}}, api.ErrText)
	holdError(t, asked{x, nil, parts(0, 0), words("a b")[:0]}, api.ErrText)
}

// roomy is the same with spare room behind each list.
func roomy(q asked) asked {
	q = copied(q)
	grown := func(l []int) []int { return append(l, 1, 'a', 45, 0, -1)[:len(l)] }
	for i, x := range q.but {
		q.but[i].At = grown(x.At)
	}
	for i, w := range q.words {
		q.words[i] = api.Word{Codes: grown(w.Codes), Soft: grown(w.Soft)}
	}
	q.but = append(q.but, but("a", 0, 1), but("ab", 1))[:len(q.but)]
	q.words = append(q.words, word("a|b-"), api.Word{})[:len(q.words)]
	q.l.Shape = append(q.l.Shape, api.Line{Indent: -1, Width: -1})[:len(q.l.Shape)]
	return q
}

// whole is the same with each list as long as its room, in memory of its own.
func whole(q asked) asked {
	q.but, q.words, q.l.Shape = slices.Clone(q.but[:cap(q.but)]), slices.Clone(q.words[:cap(q.words)]), q.l.Shape[:cap(q.l.Shape)]
	for i, x := range q.but {
		q.but[i].At = x.At[:cap(x.At)]
	}
	for i, w := range q.words {
		q.words[i] = api.Word{Codes: w.Codes[:cap(w.Codes)], Soft: w.Soft[:cap(w.Soft)]}
	}
	return copied(q)
}

// R4, for P16.1, P16.2: what is handed in stays as it is, its spare room too, and that counts for nothing.
func TestHandedInStays(t *testing.T) {
	for _, q := range append(some(t, 600), asked{made(t), nil, api.Layout{}, words("a")}, asked{made(t), nil, parts(0, 0), wrongWords()[9]}, asked{nil, nil, plain(3), words("a-b")}) {
		o := roomy(q)
		was, all := copied(o), whole(o)
		for _, parted := range []bool{false, true} {
			want, x := breaks(q, parted)
			l, e := para.Breaks(o.trie, o.but, o.l, o.words, parted)
			if !slices.Equal(l, want) || e != x {
				t.Errorf("%v: %v, %v, not %v, %v", q, l, e, want, x)
			}
			for _, b := range l {
				para.Penalty(o.l, b)
			}
		}
		if !reflect.DeepEqual(copied(o), was) || !reflect.DeepEqual(whole(o), all) {
			t.Errorf("%v is %v", was, o)
		}
	}
}

// R4, for P16.1: changes of what was handed in, and of answers, their spare room too, change neither an answer that was given nor a later one.
func TestNotKept(t *testing.T) {
	for _, q := range some(t, 600) {
		for _, parted := range []bool{false, true} {
			want, _ := breaks(q, parted)
			o := copied(q)
			before, _ := para.Breaks(o.trie, o.but, o.l, o.words, parted)
			l, _ := para.Breaks(o.trie, o.but, o.l, o.words, parted)
			for i := range l[:cap(l)] {
				l[:cap(l)][i] = at(7, 7, 7)
			}
			if !slices.Equal(before, want) || !reflect.DeepEqual(o, copied(q)) {
				t.Errorf("%v: %v, and %v", q, before, o)
			}
			holdOne(t, o, parted)
			spoil(o)
			if !slices.Equal(before, want) {
				t.Errorf("%v: %v", q, before)
			}
			hold(t, o)
			holdOne(t, q, parted)
		}
	}
}

// spoil sets all lists to other things.
func spoil(q asked) {
	for _, x := range q.but {
		for i := range x.At {
			x.At[i] = 1
		}
	}
	for i, w := range q.words {
		for k := range w.Codes {
			w.Codes[k] = int("-a"[(i+k)%2])
		}
	}
}

// R5, for P16.1, P16.2: answers hang on what is handed in alone, not on what was asked ahead of it: asked many times, in any order, they are the same.
func TestAskedAgain(t *testing.T) {
	source := rand.New(rand.NewSource(1605))
	all := some(t, 60)
	for _, q := range all {
		l, e := para.Breaks(q.trie, q.but, q.l, q.words, true)
		for range 40 {
			o := all[source.Intn(len(all))]
			o.trie = q.trie
			hold(t, o)
			if k, f := para.Breaks(q.trie, q.but, q.l, q.words, true); !slices.Equal(k, l) || f != e {
				t.Fatalf("%v: %v, %v, not %v, %v", q, k, f, l, e)
			}
		}
	}
}

// R5, for P16.1: several goroutines that ask at once, of one trie, the first ones among them, are all told what one is told.
func TestAtOnce(t *testing.T) {
	all := some(t, 50)
	for i, q := range all {
		var wait sync.WaitGroup
		begin := make(chan struct{})
		for n := range 8 {
			wait.Go(func() {
				<-begin
				hold(t, q)
				for k := range all {
					o := all[(k*(2*n+1)+n+i)%len(all)]
					o.trie = q.trie
					holdOne(t, o, n%3 > 0)
				}
			})
		}
		close(begin)
		wait.Wait()
	}
}
