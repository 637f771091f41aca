package piece_test

import (
	"math"
	"math/rand"
	"reflect"
	"slices"
	"strings"
	"sync"
	"testing"

	"compositor/api"
	"compositor/hyph"
	"compositor/para"
	"compositor/piece"
	"compositor/trie"
)

// hold holds Pieces against the chapter's words, and tells what it answers.
func hold(t *testing.T, l []api.Word, a, b api.Break) ([][]int, api.Errno) {
	t.Helper()
	want, x := pieces(l, a, b)
	line, e := piece.Pieces(l, a, b)
	if !same(line, want) || e != x {
		t.Errorf("%v, %v to %v: %v, %v, not %v, %v", l, a, b, line, e, want, x)
	}
	return line, e
}

// holdError holds Pieces against an error.
func holdError(t *testing.T, l []api.Word, a, b api.Break, x api.Errno) {
	t.Helper()
	if line, e := hold(t, l, a, b); len(line) != 0 || e != x {
		t.Errorf("%v, %v to %v: %v, %v, not %v", l, a, b, line, e, x)
	}
}

// holdWhole holds Whole against the chapter's words.
func holdWhole(t *testing.T, lines [][][]int, ends []api.Break) [][]int {
	t.Helper()
	want := whole(lines, ends)
	l := piece.Whole(lines, ends)
	if !same(l, want) {
		t.Errorf("%v, %v: %v, not %v", lines, ends, l, want)
	}
	return l
}

// holdLines holds the lines of words between breaks, the first and the last one among these, against the words.
func holdLines(t *testing.T, l []api.Word, breaks []api.Break) {
	t.Helper()
	var lines [][][]int
	for i := range breaks[1:] {
		line, e := hold(t, l, breaks[i], breaks[i+1])
		if e != api.OK || len(line) == 0 || slices.ContainsFunc(line, func(p []int) bool { return len(p) == 0 }) {
			t.Errorf("%v, %v to %v: %v, %v", l, breaks[i], breaks[i+1], line, e)
		}
		lines = append(lines, line)
	}
	if all := holdWhole(t, lines, breaks[1:]); !same(all, codes(l)) {
		t.Errorf("%v, %v: %v", l, breaks, all)
	}
}

// P17.2: the chapter's example.
func TestExample(t *testing.T) {
	line, e := piece.Pieces(words("ab cd"), api.Break{Kind: api.BStart}, api.Break{Kind: api.BHyph, Word: 1, At: 1})
	if want := [][]int{{'a', 'b'}, {'c', '-'}}; !same(line, want) || e != api.OK {
		t.Errorf("%v, %v", line, e)
	}
}

// P17.1: all breaks that may be ones of words, written out.
func TestStandsWrittenOut(t *testing.T) {
	for _, x := range [][2]string{
		{"a", "^0.0 $0.1"}, {"-", "^0.0 $0.1"}, {"ab", "^0.0 h0.1 s0.1 -0.1 $0.2"}, {"a-", "^0.0 h0.1 s0.1 -0.1 $0.2"}, {"a|b", "^0.0 h0.1 s0.1 -0.1 $0.2"}, {"abc", "^0.0 h0.1 s0.1 -0.1 h0.2 s0.2 -0.2 $0.3"},
		{"a b", "^0.0 _0.1 $1.1"}, {"ab c", "^0.0 h0.1 s0.1 -0.1 _0.2 $1.1"}, {"a bc", "^0.0 _0.1 h1.1 s1.1 -1.1 $1.2"}, {"ab ab", "^0.0 h0.1 s0.1 -0.1 _0.2 h1.1 s1.1 -1.1 $1.2"},
		{"a bc d", "^0.0 _0.1 h1.1 s1.1 -1.1 _1.2 $2.1"}, {"a a abc", "^0.0 _0.1 _1.1 h2.1 s2.1 -2.1 h2.2 s2.2 -2.2 $2.3"},
	} {
		var all []string
		for _, b := range around(words(x[0])) {
			if piece.Stands(words(x[0]), b) {
				all = append(all, written(b))
			}
		}
		want := strings.Fields(x[1])
		slices.Sort(want)
		if slices.Sort(all); !slices.Equal(all, want) {
			t.Errorf("%s: %v, not %v", x[0], all, want)
		}
	}
}

// P17.1: of words of all kinds, all breaks that may be ones of theirs, and others around them.
func TestStands(t *testing.T) {
	for _, l := range some(40) {
		may := map[api.Break]bool{}
		for _, b := range standing(l) {
			may[b] = true
		}
		for _, b := range around(l) {
			if piece.Stands(l, b) != may[b] {
				t.Errorf("%v, %v: %t", l, b, !may[b])
			}
			delete(may, b)
		}
		if len(may) > 0 {
			t.Errorf("%v: not asked of %v", l, may)
		}
	}
}

// P17.1, P17.2: of words that may not be, in each way, no break may be one, and they are told ahead of breaks that may not be.
func TestWrongWords(t *testing.T) {
	for _, l := range wrongWords() {
		all := []api.Break{at(0, 0, 0), at(1, 0, 1), at(2, 0, 1), at(3, 0, 1), at(4, 0, 1), at(5, 0, 1), at(0, 1, 0), at(0, 0, 1), at(5, 0, 0), at(6, 0, 0), at(-1, 0, 1), at(1, -1, 0), at(2, math.MaxInt, 1), at(3, 0, math.MinInt)}
		for i, w := range l[:min(len(l), 5)] {
			for kind := range 6 {
				all = append(all, at(kind, i, len(w.Codes)), at(kind, i, len(w.Codes)-1), at(kind, len(l)-1, len(l[len(l)-1].Codes)))
			}
		}
		for i, a := range all {
			if piece.Stands(l, a) {
				t.Errorf("%v, %v stands", l, a)
			}
			holdError(t, l, a, all[(i+1)%len(all)], api.ErrText)
			holdError(t, l, at(0, 0, 0), a, api.ErrText)
			holdError(t, l, a, a, api.ErrText)
		}
	}
}

// P17.2: lines written out: within a word, over two words, and over more, from each kind of break to each.
func TestPiecesWrittenOut(t *testing.T) {
	for _, x := range []struct{ text, a, b, line string }{
		{"a", "^0.0", "$0.1", "a"}, {"-", "^0.0", "$0.1", "-"}, {"ab", "^0.0", "$0.2", "ab"}, {"ab", "^0.0", "h0.1", "a-"}, {"ab", "^0.0", "s0.1", "a-"}, {"ab", "^0.0", "-0.1", "a"}, {"ab c", "^0.0", "_0.2", "ab"}, {"a|b", "^0.0", "$0.2", "ab"},
		{"ab", "h0.1", "$0.2", "b"}, {"ab", "s0.1", "$0.2", "b"}, {"ab", "-0.1", "$0.2", "b"}, {"ab c", "h0.1", "_0.2", "b"}, {"ab c", "s0.1", "_0.2", "b"}, {"ab c", "-0.1", "_0.2", "b"}, {"a b", "_0.1", "$1.1", "b"}, {"a b c", "_0.1", "_1.1", "b"},
		{"abcd", "h0.1", "h0.2", "b-"}, {"abcd", "h0.1", "s0.3", "bc-"}, {"abcd", "h0.2", "-0.3", "c"}, {"abcd", "s0.1", "h0.3", "bc-"}, {"abcd", "s0.1", "s0.2", "b-"}, {"abcd", "s0.2", "-0.3", "c"}, {"abcd", "-0.1", "h0.2", "b-"}, {"abcd", "-0.2", "s0.3", "c-"}, {"abcd", "-0.1", "-0.3", "bc"},
		{"ab cde", "_0.2", "h1.1", "c-"}, {"ab cde", "_0.2", "s1.2", "cd-"}, {"ab cde", "_0.2", "-1.2", "cd"}, {"ab cde", "_0.2", "$1.3", "cde"}, {"ab cde f", "_0.2", "_1.3", "cde"},
		{"ab cde", "^0.0", "h1.1", "ab c-"}, {"ab cde", "^0.0", "s1.2", "ab cd-"}, {"ab cde", "^0.0", "-1.2", "ab cd"}, {"ab cde", "^0.0", "$1.3", "ab cde"}, {"ab cde f", "^0.0", "_1.3", "ab cde"}, {"ab cde", "h0.1", "h1.1", "b c-"}, {"ab cde", "s0.1", "s1.2", "b cd-"}, {"ab cde", "-0.1", "-1.1", "b c"}, {"ab cde", "-0.1", "$1.3", "b cde"}, {"ab cde f", "h0.1", "_1.3", "b cde"},
		{"ab c de f gh", "^0.0", "$4.2", "ab c de f gh"}, {"ab c de f gh", "_0.2", "_3.1", "c de f"}, {"ab c de f gh", "h0.1", "s4.1", "b c de f g-"}, {"ab c de f gh", "_1.1", "-4.1", "de f g"}, {"ab c de f gh", "s2.1", "$4.2", "e f gh"}, {"ab c de f gh", "-0.1", "_2.2", "b c de"}, {"ab c de f gh", "_0.2", "h2.1", "c d-"},
		{"a-b", "^0.0", "-0.2", "a-"}, {"a-b", "^0.0", "h0.2", "a--"}, {"a-b", "^0.0", "s0.2", "a--"}, {"a-b", "^0.0", "h0.1", "a-"}, {"a-b", "h0.1", "$0.3", "-b"}, {"a-b", "-0.2", "$0.3", "b"}, {"a- b", "^0.0", "_0.2", "a-"}, {"a -", "_0.1", "$1.1", "-"}, {"---", "h0.1", "s0.2", "--"}, {"a -b", "^0.0", "h1.1", "a --"}, {"-- --", "-0.1", "-1.1", "- -"},
	} {
		line, e := hold(t, words(x.text), read(x.a), read(x.b))
		if told(line) != x.line || e != api.OK {
			t.Errorf("%s, %s to %s: %s, %v, not %s", x.text, x.a, x.b, told(line), e, x.line)
		}
	}
}

// P17.2: of short texts, each two breaks that may be ones of theirs.
func TestEachTwo(t *testing.T) {
	for _, text := range []string{"a", "-", "ab", "--", "a b", "abcd", "a-|b-c", "ab c-d", "a bc d", "-|- - a", "abc a --- bcd", "a b c d e f"} {
		l := words(text)
		all := standing(l)
		for _, a := range all {
			for _, b := range all {
				hold(t, l, a, b)
			}
		}
	}
}

// P17.2: breaks that may not be, ahead of, or behind, each one that may be, and beside one another.
func TestWrongBreaks(t *testing.T) {
	for _, text := range []string{"a", "ab", "a b", "ab -c- d"} {
		l := words(text)
		all := standing(l)
		for i, wrong := range around(l) {
			if slices.Contains(all, wrong) {
				continue
			}
			for _, b := range all {
				holdError(t, l, wrong, b, api.ErrArg)
				holdError(t, l, b, wrong, api.ErrArg)
			}
			holdError(t, l, wrong, wrong, api.ErrArg)
			holdError(t, l, wrong, at(i%7-1, i%3, i%4), api.ErrArg)
		}
	}
}

// P17.2: breaks that may be, in no order for a line: one that is the other one, or ahead of it, two of one place, an end first, a start last.
func TestNoLine(t *testing.T) {
	for _, x := range [][3]string{
		{"a", "^0.0", "^0.0"}, {"a", "$0.1", "$0.1"}, {"a", "$0.1", "^0.0"}, {"abc", "h0.1", "h0.1"}, {"abc", "s0.1", "s0.1"}, {"abc", "-0.1", "-0.1"}, {"a b", "_0.1", "_0.1"},
		{"abc", "h0.1", "s0.1"}, {"abc", "s0.1", "h0.1"}, {"abc", "h0.2", "-0.2"}, {"abc", "-0.2", "h0.2"}, {"abc", "s0.2", "-0.2"}, {"abc", "-0.1", "s0.1"}, {"abc", "h0.2", "h0.1"}, {"abc", "s0.2", "-0.1"}, {"abc", "-0.2", "s0.1"},
		{"abc", "$0.3", "h0.1"}, {"abc", "$0.3", "s0.2"}, {"abc", "$0.3", "-0.2"}, {"a b", "$1.1", "_0.1"}, {"a b", "$1.1", "^0.0"}, {"abc", "h0.1", "^0.0"}, {"abc", "s0.1", "^0.0"}, {"abc", "-0.1", "^0.0"}, {"a b", "_0.1", "^0.0"},
		{"ab cd", "_0.2", "h0.1"}, {"ab cd", "h1.1", "_0.2"}, {"ab cd", "h1.1", "h0.1"}, {"ab cd", "s1.1", "-0.1"}, {"a b c", "_1.1", "_0.1"}, {"abc de f", "h1.1", "h0.2"}, {"abc de f", "_1.2", "_0.3"}, {"a bcd", "s1.1", "_0.1"},
	} {
		holdError(t, words(x[0]), read(x[1]), read(x[2]), api.ErrArg)
	}
}

// P17.2, P17.3, P17.4: lines of words of all kinds, between any breaks that may be theirs; of many words, all words on one line.
func TestSome(t *testing.T) {
	source := rand.New(rand.NewSource(174))
	for _, l := range some(500) {
		all := standing(l)
		last := len(all) - 1
		for range 20 {
			hold(t, l, all[source.Intn(last+1)], all[source.Intn(last+1)])
		}
		holdLines(t, l, []api.Break{all[0], all[last]})
		for _, often := range []int{1, 3, 10} {
			breaks := all[:1:1]
			for _, b := range all[1:last] {
				if source.Intn(often) == 0 && ahead(breaks[len(breaks)-1], b) {
					breaks = append(breaks, b)
				}
			}
			holdLines(t, l, append(breaks, all[last]))
		}
	}
}

// made are para.Breaks of words, parted by patterns, and by exceptions, wherever letters are.
func made(t *testing.T, l []api.Word) []api.Break {
	t.Helper()
	x, _ := trie.New(api.Patterns{List: []api.Pattern{{Letters: "a", Values: []int{1, 1}}, {Letters: "c", Values: []int{0, 1}}}})
	letters, _ := hyph.Core(l[0].Codes)
	breaks, e := para.Breaks(x, []api.Exception{{Word: "bb", At: []int{0, 1, 2}}, {Word: letters, At: []int{1, 2, len(letters)}}}, api.Layout{Width: 1}, l, true)
	if e != api.OK && e != api.ErrBig {
		t.Fatalf("%v: %v", l, e)
	}
	return breaks
}

// P17.4: of short texts, lines that end at each choice of para.Breaks.
func TestEachBreaking(t *testing.T) {
	for _, text := range []string{"a", "a b", "aaa", "a-b", "a|b|c", "(bb)- bb", "-bb- a", "a-|-b aa", "--- -", "ab aba c-a", "a b c d e f", "c- -c --"} {
		l := words(text)
		all := made(t, l)
		last := len(all) - 1
		for choice := range 1 << (last - 1) {
			breaks := all[:1:1]
			for i := 1; i < last; i++ {
				if choice>>(i-1)&1 == 1 {
					breaks = append(breaks, all[i])
				}
			}
			holdLines(t, l, append(breaks, all[last]))
		}
	}
}

// P17.4: of texts of all kinds, lines that end at all of para.Breaks, at some, and at none but the last one.
func TestSomeBreakings(t *testing.T) {
	source := rand.New(rand.NewSource(1741))
	big, kinds := 0, map[int]int{}
	for _, l := range some(400) {
		all := made(t, l)
		if len(all) == 0 {
			big++
			continue
		}
		for _, often := range []int{1, 2, 5, 300} {
			breaks := slices.Clone(all[:1])
			for _, b := range all[1 : len(all)-1] {
				if source.Intn(often) == 0 {
					breaks = append(breaks, b)
					kinds[b.Kind]++
				}
			}
			holdLines(t, l, append(breaks, all[len(all)-1]))
		}
	}
	if big > 100 || kinds[1] < 100 || kinds[2] < 100 || kinds[3] < 100 || kinds[4] < 100 {
		t.Errorf("they are of too few kinds: %d, %v", big, kinds)
	}
}

// P17.3: words written out, of lines as Pieces answers them, and of others.
func TestWholeWrittenOut(t *testing.T) {
	for _, x := range []struct {
		lines []string
		words string
	}{
		{nil, ""}, {[]string{"a|$"}, "a"}, {[]string{"a b c|$"}, "a b c"}, {[]string{"a|_", "b|$"}, "a b"}, {[]string{"ab c-|h", "d e|$"}, "ab cd e"}, {[]string{"ab c-|s", "d e|$"}, "ab cd e"}, {[]string{"ab c-|-", "d e|$"}, "ab c-d e"}, {[]string{"ab c-|_", "d e|$"}, "ab c- d e"}, {[]string{"ab c-|$", "d e|$"}, "ab c- d e"}, {[]string{"ab c-|^", "d e|$"}, "ab c- d e"}, {[]string{"ab c-|?", "d e|$"}, "ab c- d e"},
		{[]string{"a-|h", "b-|s", "c-|-", "d|$"}, "abc-d"}, {[]string{"a-|h", "b c-|h", "d|$"}, "ab cd"}, {[]string{"a--|h", "b|$"}, "a-b"}, {[]string{"--|s", "-|$"}, "--"}, {[]string{"ab|h", "c|$"}, "ac"}, {[]string{"a b|s", "c|_"}, "a c"}, {[]string{"ab-|h"}, "ab"}, {[]string{"ab-|s"}, "ab"}, {[]string{"ab-|-"}, "ab-"}, {[]string{"a- b-|h", "c|_"}, "a- bc"},
		{[]string{"|$"}, ""}, {[]string{"|h"}, ""}, {[]string{"|h", "a|$"}, "a"}, {[]string{"|s", "a b|$"}, "a b"}, {[]string{"|-", "|h", "a|$"}, "a"}, {[]string{"|_", "a|$"}, "a"}, {[]string{"a|_", "|$"}, "a"}, {[]string{"a-|h", "|$"}, "a"}, {[]string{"a|-", "|s", "|h"}, "a"},
		{[]string{"a-|h", "|_", "b|$"}, "a b"}, {[]string{"a-|h", "|$", "b|$"}, "a b"}, {[]string{"a-|h", "|^", "b|$"}, "a b"}, {[]string{"a-|h", "|?", "b|$"}, "a b"}, {[]string{"a-|h", "|h", "b|$"}, "ab"}, {[]string{"a-|h", "|-", "b|$"}, "ab"}, {[]string{"a|_", "|s", "b|$"}, "ab"}, {[]string{"a c|_", "|-", "b d|$"}, "a cb d"}, {[]string{"a|_", "|_", "|h", "b|$"}, "ab"}, {[]string{"a|-", "|-", "|_", "b|$"}, "a b"}, {[]string{"a|_", "|h", "|h", "b|$"}, "ab"}, {[]string{"a|_", "|h", "|?", "|-", "b|$"}, "ab"},
		{[]string{".|$"}, "."}, {[]string{".|h"}, "."}, {[]string{".|h", "a|$"}, "a"}, {[]string{".|_", "a|$"}, ". a"}, {[]string{"a|-", ".|h", "b|$"}, "ab"}, {[]string{"a-|h", ".|s", "b|$"}, "ab"}, {[]string{"ab|-", ".|h", "|$"}, "ab"}, {[]string{"a .|h", "b|$"}, "a b"}, {[]string{"a|-", ". b|$"}, "a b"}, {[]string{". .|s", "a|$"}, ". a"}, {[]string{"a|_", ".|-", "b|$"}, "a b"}, {[]string{"-|h", "b|$"}, "b"}, {[]string{"a -|h", "b|$"}, "a b"}, {[]string{"a|-", "-|h", ".|s", "b c|$"}, "ab c"}, {[]string{". a .|_", ".|$"}, ". a . ."},
	} {
		all, ends := lines(x.lines...)
		if l := holdWhole(t, all, ends); told(l) != x.words {
			t.Errorf("%q: %s, not %s", x.lines, told(l), x.words)
		}
	}
}

// P17.3: of lines and ends as many as there are of both: what is behind these is as good as not there.
func TestMoreOrFewer(t *testing.T) {
	all, ends := lines("a b-|h", "c-|s", "|-", "d-|-", "|_", "e f|_", "|h", "-|s", "g|$")
	for i, want := range []string{"", "a b", "a bc", "a bc", "a bcd-", "a bcd-", "a bcd- e f", "a bcd- e f", "a bcd- e f", "a bcd- e fg"} {
		for more := range 10 - i {
			for _, l := range [][][]int{holdWhole(t, all[:i], ends[:i+more]), holdWhole(t, all[:i+more], ends[:i])} {
				if told(l) != want {
					t.Errorf("%d, %d more: %s, not %s", i, more, told(l), want)
				}
			}
		}
	}
}

// P17.3: all of up to three short lines, at ends of each kind, and of what is none, with one end fewer, and one more.
func TestWholeShort(t *testing.T) {
	texts := []string{"", ".", "-", "ab", "a-", ". .", ". b-", "a .", "a b- c"}
	for _, first := range texts {
		for _, second := range texts {
			for _, third := range texts {
				all, _ := lines(first, second, third)
				for kinds := range 8 * 8 {
					ends := []api.Break{at(kinds%8-1, 1, 2), at(kinds/8-1, 0, 0), at(len(first+third)%8-1, 2, 1), at(2, 0, 0)}
					for count := 1; count < 5; count++ {
						holdWhole(t, all, ends[:count])
					}
					holdWhole(t, all[:2], ends[:2])
				}
			}
		}
	}
}

// P17.3: lines and ends of all kinds; of an end its kind alone has a say, and that may be any number.
func TestWholeSome(t *testing.T) {
	words := 0
	for _, s := range sets(5000) {
		l := holdWhole(t, s.lines, s.ends)
		words += len(l)
		for _, n := range []int{math.MinInt, -1, 0, 1, math.MaxInt} {
			ends := slices.Clone(s.ends)
			for i := range ends {
				ends[i].Word, ends[i].At = n, -n
			}
			if m := holdWhole(t, s.lines, ends); !same(l, m) {
				t.Errorf("%v, %v: %v, not %v", s.lines, ends, m, l)
			}
		}
	}
	if words < 5000 {
		t.Errorf("they are of %d words", words)
	}
	for _, kind := range []int{math.MinInt, math.MinInt + 2, -4, -3, -2, -1, 6, 7, 8, 1<<8 + 2, 1<<16 + 3, 1<<32 + 2, 1<<32 + 3, 1<<32 + 4, math.MaxInt} {
		all, ends := lines("a b-|?", "c-|?", "d|?")
		for i := range ends {
			ends[i].Kind = kind
		}
		if l := holdWhole(t, all, ends); told(l) != "a b- c- d" {
			t.Errorf("%d: %s", kind, told(l))
		}
	}
}

// R1, for P17.1, P17.2, P17.3: what is long ends, too.
func TestLong(t *testing.T) {
	const n = 1 << 20
	long := slices.Repeat([]int{'a'}, n)
	for _, l := range [][]api.Word{slices.Repeat(words("a-b"), n), {{Codes: long}}, {{Codes: long[:60], Soft: long}}, append(words("a"), api.Word{Codes: long, Soft: long})} {
		if line, e := piece.Pieces(l, at(0, 0, 0), at(5, len(l)-1, len(l[len(l)-1].Codes))); len(line) != 0 || e != api.ErrText || piece.Stands(l, at(0, 0, 0)) {
			t.Errorf("%d, %v", len(line), e)
		}
	}
	for _, x := range []struct {
		lines          [][][]int
		kind           int
		words, longest int
	}{
		{slices.Repeat([][][]int{{{'a', '-'}}}, n), 2, 1, n}, {slices.Repeat([][][]int{{{'a'}}}, n), 4, 1, n}, {slices.Repeat([][][]int{{{'a'}}}, n), 1, n, 1}, {slices.Repeat([][][]int{{}}, n), 3, 0, 0}, {slices.Repeat([][][]int{{{}}}, n), 2, 1, 0}, {slices.Repeat([][][]int{{{}, {'a'}}}, n), 2, n + 1, 0}, {[][][]int{slices.Repeat([][]int{{'a'}}, n)}, 5, n, 1}, {[][][]int{{long}}, 3, 1, n - 1}, {[][][]int{{{}}, {long}}, 4, 1, n},
	} {
		l := piece.Whole(x.lines, slices.Repeat([]api.Break{at(x.kind, 0, 0)}, n))
		longest := 0
		for _, w := range l {
			longest = max(longest, len(w))
		}
		if len(l) != x.words || longest != x.longest {
			t.Errorf("%d lines, kind %d: %d words, %d codes", len(x.lines), x.kind, len(l), longest)
		}
	}
	ends := slices.Repeat([]api.Break{at(2, 0, 0)}, n)
	if l := piece.Whole(nil, ends); len(l) != 0 {
		t.Errorf("%v", l)
	}
	if l := piece.Whole(slices.Repeat([][][]int{{{'a', '-'}}}, n), ends[:2]); told(l) != "aa" {
		t.Errorf("%v", l)
	}
}

// R4, for P17.1, P17.2, P17.3: lists without elements may be nil or not.
func TestNil(t *testing.T) {
	for _, soft := range [][]int{nil, {}, make([]int, 0, 3), []int{1, 2}[:0]} {
		l := []api.Word{{Codes: []int{'a', 'b'}, Soft: soft}}
		if line, e := hold(t, l, at(0, 0, 0), at(3, 0, 1)); told(line) != "a-" || e != api.OK || !piece.Stands(l, at(5, 0, 2)) {
			t.Errorf("%v: %v, %v", l, line, e)
		}
		l[0].Codes = soft
		holdError(t, l, at(0, 0, 0), at(5, 0, 0), api.ErrText)
		if l := holdWhole(t, [][][]int{{{'a', '-'}, soft}, {soft, {'b'}}}, []api.Break{at(2, 0, 0), at(5, 0, 0)}); told(l) != "a- . b" {
			t.Errorf("%v", l)
		}
	}
	for _, l := range [][]api.Word{nil, {}, make([]api.Word, 0, 3), words("a b")[:0]} {
		holdError(t, l, at(0, 0, 0), at(5, 0, 1), api.ErrText)
	}
	for _, line := range [][][]int{nil, {}, make([][]int, 0, 3), [][]int{{'b'}}[:0]} {
		if l := holdWhole(t, [][][]int{{{'a', '-'}}, line, {{'b'}}}, []api.Break{at(2, 0, 0), at(3, 0, 0), at(5, 0, 0)}); told(l) != "ab" {
			t.Errorf("%v", l)
		}
	}
	all, ends := lines("a-|h", "b|$")
	for _, none := range [][][][]int{nil, {}, all[:0]} {
		for _, no := range [][]api.Break{nil, {}, ends[:0]} {
			if a, b, c := holdWhole(t, none, ends), holdWhole(t, all, no), holdWhole(t, none, no); len(a)+len(b)+len(c) != 0 {
				t.Errorf("%v, %v, %v", a, b, c)
			}
		}
	}
}

// grown is a list in memory of its own, with spare room behind.
func grown(l []int) []int { return append(slices.Clone(l), 1, 'a', 45, 0, -1)[:len(l)] }

// roomy are words with spare room behind each list.
func roomy(l []api.Word) []api.Word {
	l = slices.Clone(l)
	for i, w := range l {
		l[i] = api.Word{Codes: grown(w.Codes), Soft: grown(w.Soft)}
	}
	return append(l, words("a|b-")[0], api.Word{})[:len(l)]
}

// wholeRoom are all numbers of words, and of their spare room, in memory of their own.
func wholeRoom(l []api.Word) []api.Word {
	l = slices.Clone(l[:cap(l)])
	for i, w := range l {
		l[i] = api.Word{Codes: slices.Clone(w.Codes[:cap(w.Codes)]), Soft: slices.Clone(w.Soft[:cap(w.Soft)])}
	}
	return l
}

// roomySet is the same with spare room behind each list.
func roomySet(s set) set {
	s.lines, s.ends = slices.Clone(s.lines), append(slices.Clone(s.ends), at(2, 0, 0), at(4, 1, 1))[:len(s.ends)]
	for i, line := range s.lines {
		line = slices.Clone(line)
		for k := range line {
			line[k] = grown(line[k])
		}
		s.lines[i] = append(line, []int{'x', 'y'}, nil)[:len(line)]
	}
	s.lines = append(s.lines, [][]int{{'x'}}, nil)[:len(s.lines)]
	return s
}

// wholeSet are all numbers of lines and ends, and of their spare room, in memory of their own.
func wholeSet(s set) set {
	s.lines, s.ends = slices.Clone(s.lines[:cap(s.lines)]), slices.Clone(s.ends[:cap(s.ends)])
	for i, line := range s.lines {
		line = slices.Clone(line[:cap(line)])
		for k := range line {
			line[k] = slices.Clone(line[k][:cap(line[k])])
		}
		s.lines[i] = line
	}
	return s
}

// spoil sets all lists of codes, and their spare room, to numbers of their own, and tells whether all of them keep these.
func spoil(l [][]int) bool {
	for i := range l {
		all := l[i][:cap(l[i])]
		for k := range all {
			all[k] = 1000 + i
		}
	}
	kept := true
	for i := range l {
		kept = kept && !slices.ContainsFunc(l[i][:cap(l[i])], func(n int) bool { return n != 1000+i })
	}
	clear(l[:cap(l)])
	return kept
}

// changed sets all numbers of a list, and of its spare room, by change.
func changed(l []int, change func(n int) int) {
	all := l[:cap(l)]
	for i := range all {
		all[i] = change(all[i])
	}
}

// R4, for P17.1, P17.2: words stay as they are, their spare room too, and that counts for nothing; changes of an answer, or of words, change no other answer, and no other piece.
func TestPiecesMemory(t *testing.T) {
	source := rand.New(rand.NewSource(1704))
	for _, l := range append(some(200), wrongWords()...) {
		all := append(standing(l), at(5, 0, 0), at(9, 9, 9))
		for range 10 {
			i, k := source.Intn(len(all)), source.Intn(len(all))
			a, b := all[min(i, k)], all[max(i, k)]
			want, x := pieces(l, a, b)
			m := roomy(l)
			was := wholeRoom(m)
			line, e := hold(t, m, a, b)
			again, _ := hold(t, m, a, b)
			stands := piece.Stands(m, b)
			if !spoil(again) || !same(line, want) || e != x || stands != slices.Contains(standing(l), b) || !reflect.DeepEqual(wholeRoom(m), was) {
				t.Errorf("%v, %v to %v: %v, and the words are %v", l, a, b, line, m)
			}
			for _, w := range m {
				changed(w.Codes, func(n int) int { return n ^ 1 })
			}
			hold(t, m, a, b)
			for _, w := range m {
				changed(w.Soft, func(n int) int { return 1 - n })
			}
			hold(t, m, a, b)
			if clear(m); !same(line, want) {
				t.Errorf("%v, %v to %v: %v", l, a, b, line)
			}
			holdError(t, m, a, b, api.ErrText)
			hold(t, l, a, b)
		}
	}
}

// R4, for P17.3: lines and ends stay as they are, their spare room too, and that counts for nothing; changes of an answer, or of lines and ends, change no other answer, and no other word.
func TestWholeMemory(t *testing.T) {
	for _, s := range sets(2000) {
		want := whole(s.lines, s.ends)
		m := roomySet(s)
		was := wholeSet(m)
		l := holdWhole(t, m.lines, m.ends)
		if !spoil(holdWhole(t, m.lines, m.ends)) || !same(l, want) || !reflect.DeepEqual(wholeSet(m), was) {
			t.Errorf("%v: %v, and they are %v", s, l, m)
		}
		for _, line := range m.lines {
			for _, codes := range line {
				changed(codes, func(n int) int { return n ^ 1 })
			}
		}
		holdWhole(t, m.lines, m.ends)
		for i := range m.ends {
			m.ends[i].Kind ^= 1
		}
		holdWhole(t, m.lines, m.ends)
		for _, line := range m.lines {
			clear(line)
		}
		holdWhole(t, m.lines, m.ends)
		clear(m.lines)
		if l := holdWhole(t, m.lines, m.ends); len(l) != 0 {
			t.Errorf("%v: %v", s, l)
		}
		if holdWhole(t, s.lines, s.ends); !same(l, want) {
			t.Errorf("%v: %v, not %v", s, l, want)
		}
	}
}

// holdAll holds all calls against the chapter's words: of words, from the first of some breaks to each other one, and of lines and ends.
func holdAll(t *testing.T, l []api.Word, breaks []api.Break, s set) {
	t.Helper()
	for _, b := range breaks {
		hold(t, l, breaks[0], b)
		if piece.Stands(l, b) != slices.Contains(standing(l), b) {
			t.Errorf("%v, %v", l, b)
		}
	}
	holdWhole(t, s.lines, s.ends)
}

// few are some of all breaks of words, and one that may not be.
func few(l []api.Word) []api.Break {
	all := standing(l)
	return []api.Break{all[len(all)/3], all[len(all)/2], all[len(all)*2/3], all[len(all)-1], all[0], at(5, 0, 0)}
}

// R5, for P17.1, P17.2, P17.3: answers hang on what is handed in alone, not on what was asked ahead of it: asked many times, in any order, they are the same.
func TestAskedAgain(t *testing.T) {
	source := rand.New(rand.NewSource(1705))
	all, others := some(60), sets(60)
	for i, l := range all {
		for range 5 {
			holdAll(t, l, few(l), others[i])
			k := source.Intn(len(all))
			holdAll(t, all[k], few(all[k]), others[source.Intn(len(others))])
		}
	}
}

// R5, for P17.1, P17.2, P17.3: several goroutines that ask at once, of the same words and lines, with spare room behind, are all told what one is told.
func TestAtOnce(t *testing.T) {
	all, others := some(40), sets(40)
	for i := range all {
		all[i], others[i] = roomy(all[i]), roomySet(others[i])
	}
	var wait sync.WaitGroup
	begin := make(chan struct{})
	for n := range 8 {
		wait.Go(func() {
			<-begin
			for i := range all {
				k := (i*(2*(n%3)+1) + n/4) % len(all)
				holdAll(t, all[k], few(all[k]), others[k])
			}
		})
	}
	close(begin)
	wait.Wait()
}
