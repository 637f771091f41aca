package text_test

import (
	"bytes"
	"math"
	"math/rand"
	"slices"
	"strings"
	"sync"
	"testing"
	"unicode/utf8"

	"compositor/api"
	"compositor/text"
)

// hold holds Check, Write, and Read of what is written, against the chapter's words, and tells whether words may be.
func hold(t *testing.T, l []api.Word) bool {
	t.Helper()
	may := mayBe(l)
	if text.Check(l) != may {
		t.Errorf("Check(%v): %t", l, !may)
	}
	want, x := written(l)
	b, e := text.Write(l)
	if string(b) != want || e != x {
		t.Errorf("Write(%v): %q, %v, not %q, %v", l, b, e, want, x)
	}
	if !may {
		return false
	}
	if m, e := text.Read(b); !same(l, m) || e != api.OK {
		t.Errorf("Read(%q): %v, %v, not %v", b, m, e, l)
	}
	return true
}

// holdText holds Read, and Check and Write of what is read, against the chapter's words, and tells whether there are words of a text.
func holdText(t *testing.T, s string) bool {
	t.Helper()
	want, x := parsed(s)
	l, e := text.Read([]byte(s))
	if !same(l, want) || e != x {
		t.Errorf("Read(%q): %v, %v, not %v, %v", s, l, e, want, x)
	}
	if e != api.OK {
		return false
	}
	if b, e := text.Write(l); string(b) != plain(s) || e != api.OK {
		t.Errorf("Write of Read(%q): %q, %v", s, b, e)
	}
	return hold(t, l)
}

// holdOne holds whether a word may be, alone and beside others.
func holdOne(t *testing.T, w api.Word, may bool) {
	t.Helper()
	other := word("m-n", 1)
	for _, l := range [][]api.Word{{w}, {w, other}, {other, w}, {other, w, other}, {w, w}} {
		if hold(t, l) != may {
			t.Errorf("%v: %t", l, !may)
		}
	}
}

// holdBytes holds whether there is a word of bytes, alone and beside others.
func holdBytes(t *testing.T, letters string, is bool) {
	t.Helper()
	for _, s := range []string{letters, " " + letters, letters + "\n", "m" + shy + "n " + letters, letters + "\tm" + shy + "n", "x\r" + letters + "\ry", letters + " " + letters} {
		if holdText(t, s) != is {
			t.Errorf("%q: %t", s, !is)
		}
	}
}

// P13.1, P13.2: the chapter's example.
func TestExample(t *testing.T) {
	b := []byte{'a', 'b', 194, 173, 'c'}
	want := list(word("abc", 2))
	if l, e := text.Read(b); !same(l, want) || e != api.OK {
		t.Errorf("%v, %v", l, e)
	}
	if l, e := text.Write(want); !bytes.Equal(l, b) || e != api.OK {
		t.Errorf("%q, %v", l, e)
	}
	if !text.Check(want) {
		t.Error("they may not be")
	}
}

// P13.1, P13.2, P13.3: words and their texts, written out.
func TestWrittenOut(t *testing.T) {
	for s, l := range map[string][]api.Word{
		"a":                                  {word("a")},
		"!":                                  {word("!")},
		"~":                                  {word("~")},
		"a b":                                {word("a"), word("b")},
		"a a a":                              {word("a"), word("a"), word("a")},
		"f-i -":                              {word("f-i"), word("-")},
		"a\xc2\xadb":                         {word("ab", 1)},
		"a\xc2\xadb\xc2\xadc":                {word("abc", 1, 2)},
		"ab\xc2\xadcd":                       {word("abcd", 2)},
		"a\xc2\xad-\xc2\xadb c":              {word("a-b", 1, 2), word("c")},
		"c abc\xc2\xadd e":                   {word("c"), word("abcd", 3), word("e")},
		"!\"#$%&'()*+,-./:;<=>?@[\\]^_`{|}~": {word("!\"#$%&'()*+,-./:;<=>?@[\\]^_`{|}~")},
	} {
		if b, e := text.Write(l); string(b) != s || e != api.OK || !hold(t, l) {
			t.Errorf("%v: %q, %v", l, b, e)
		}
		if m, e := text.Read([]byte(s)); !same(m, l) || e != api.OK || !holdText(t, s) {
			t.Errorf("%q: %v, %v", s, m, e)
		}
	}
}

// P13.1: each code, at each place of a word.
func TestCodes(t *testing.T) {
	codes := append(from(-300, 700), 1<<16+'a', 1<<32+'a', 1<<32+33, 1<<62, -1<<32+'a', -1<<62, 'a'-1<<8, math.MinInt, math.MinInt+33, math.MinInt+126, math.MaxInt, math.MaxInt-1)
	for _, code := range codes {
		for _, n := range []int{1, 2, 3, 60} {
			for _, at := range []int{0, n / 2, n - 1} {
				w := long(n)
				w.Codes[at] = code
				holdOne(t, w, code >= 33 && code <= 126)
				w.Soft = []int{1}
				holdOne(t, w, n > 1 && code >= 33 && code <= 126)
			}
		}
	}
	for code, may := range map[int]bool{32: false, 33: true, 126: true, 127: false, 0: false, -1: false, 256 + 'a': false, 512 + 33: false, 128: false, 173: false, 194: false, 255: false, 45: true, math.MinInt: false, math.MaxInt: false} {
		if l := list(api.Word{Codes: []int{code}}); text.Check(l) != may {
			t.Errorf("%d: %t", code, !may)
		}
	}
}

// P13.1, P13.2: how many codes a word has.
func TestLengths(t *testing.T) {
	for n := range 400 {
		may := n >= 1 && n <= 60
		holdOne(t, long(n), may)
		letters := strings.Repeat("m", n)
		if n > 0 {
			holdBytes(t, letters, may)
			holdBytes(t, strings.Repeat(shy+"m", n)[2:], may)
		}
		if n > 1 {
			holdOne(t, long(n, 1), may)
			holdOne(t, long(n, n-1), may)
			holdOne(t, long(n, from(1, n-1)...), may)
			holdBytes(t, letters[1:]+shy+"m", may)
			holdBytes(t, "m"+shy+letters[1:], may)
		}
	}
}

// P13.1: where a word may be parted.
func TestSoft(t *testing.T) {
	for _, x := range []struct {
		codes int
		parts []int
		may   bool
	}{
		{1, nil, true}, {1, []int{0}, false}, {1, []int{1}, false}, {1, []int{2}, false}, {1, []int{-1}, false},
		{2, nil, true}, {2, []int{1}, true}, {2, []int{0}, false}, {2, []int{2}, false}, {2, []int{3}, false}, {2, []int{-1}, false}, {2, []int{0, 1}, false}, {2, []int{1, 2}, false}, {2, []int{1, 1}, false}, {2, []int{1, 0}, false},
		{3, []int{1, 2}, true}, {3, []int{2, 1}, false}, {3, []int{2, 2}, false}, {3, []int{1, 1, 2}, false}, {3, []int{1, 2, 2}, false}, {3, []int{1, 2, 3}, false}, {3, []int{0, 1, 2}, false}, {3, []int{1, 2, 1}, false},
		{5, []int{1, 2, 3, 4}, true}, {5, []int{0, 1, 2, 3, 4}, false}, {5, []int{1, 2, 3, 4, 5}, false}, {5, []int{1, 4}, true}, {5, []int{2, 3}, true}, {5, []int{2, 4}, true},
		{5, []int{4, 1}, false}, {5, []int{3, 2}, false}, {5, []int{1, 3, 2}, false}, {5, []int{2, 1, 3}, false}, {5, []int{1, 3, 3}, false}, {5, []int{4, 3, 2, 1}, false}, {5, []int{1, 2, 4, 3}, false},
		{5, []int{-1}, false}, {5, []int{-4, 2}, false}, {5, []int{2, -2}, false}, {5, []int{math.MinInt}, false}, {5, []int{math.MaxInt}, false}, {5, []int{math.MinInt, 2}, false}, {5, []int{2, math.MaxInt}, false}, {5, []int{math.MaxInt, math.MinInt}, false}, {5, []int{math.MaxInt, 2}, false}, {5, []int{2, math.MaxInt, math.MinInt}, false}, {5, []int{2, math.MaxInt, math.MinInt, 3}, false}, {5, []int{1<<32 + 2}, false}, {5, []int{256 + 2}, false}, {5, []int{2 - 256}, false},
		{60, []int{59}, true}, {60, []int{60}, false}, {60, []int{61}, false}, {60, from(1, 59), true}, {60, from(0, 59), false}, {60, from(1, 60), false}, {60, times(7, 2), false}, {60, times(7, 60), false},
		{0, nil, false}, {0, []int{0}, false}, {0, []int{1}, false}, {0, []int{-1}, false}, {61, []int{1}, false}, {61, []int{60}, false}, {61, from(1, 60), false},
	} {
		holdOne(t, long(x.codes, x.parts...), x.may)
	}
	for n := 1; n <= 60; n++ {
		for at := -2; at <= n+2; at++ {
			holdOne(t, long(n, at), at > 0 && at < n)
		}
	}
	for n := range 6 {
		for i := range 7 * 7 * 7 * 7 {
			parts := []int{i%7 - 1, i/7%7 - 1, i/49%7 - 1, i/343 - 1}
			for k := range parts {
				hold(t, list(long(n, parts[:k+1]...)))
			}
		}
	}
}

// P13.1, P13.2: how many words there are.
func TestCounts(t *testing.T) {
	for n := range 210 {
		may := n >= 1 && n <= 100
		if hold(t, of(times(1, n)...)) != may || hold(t, of(times(2, n)...)) != may {
			t.Errorf("%d: %t", n, !may)
		}
		for _, letters := range []string{"a", "a" + shy + "b", "~!"} {
			words := slices.Repeat([]string{letters}, n)
			if holdText(t, strings.Join(words, " ")) != may || holdText(t, "\n"+strings.Join(words, "\r\n ")+"\t\n") != may {
				t.Errorf("%d words %q: %t", n, letters, !may)
			}
		}
	}
	if hold(t, nil) || hold(t, []api.Word{}) {
		t.Error("no words may be")
	}
}

// P13.1, P13.2: how many codes there are in all.
func TestCodesInAll(t *testing.T) {
	for _, x := range []struct {
		counts []int
		may    bool
	}{
		{times(4, 100), true}, {append(times(4, 99), 5), false}, {append([]int{5}, times(4, 99)...), false}, {append(times(4, 99), 3), true}, {append(times(4, 98), 5, 3), true}, {append(times(4, 98), 5, 4), false},
		{times(50, 8), true}, {append(times(50, 7), 51), false}, {append([]int{51}, times(50, 7)...), false}, {append(times(50, 8), 1), false}, {append(times(60, 6), 40), true}, {append(times(60, 6), 41), false}, {append([]int{41}, times(60, 6)...), false}, {append(times(60, 6), 39, 1), true}, {append(times(60, 6), 39), true}, {append(times(60, 6), 40, 1), false},
		{times(60, 6), true}, {times(60, 7), false}, {times(60, 100), false}, {times(8, 50), true}, {append(times(8, 50), 1), false}, {append(times(1, 50), times(7, 50)...), true}, {append(times(1, 50), append(times(7, 49), 8)...), false}, {append(times(1, 94), times(51, 6)...), true}, {append(times(1, 95), times(61, 5)...), false}, {append(times(1, 95), append(times(60, 5), 6)...), false}, {append(times(1, 95), append(times(60, 4), 60)...), true}, {times(4, 101), false}, {append(times(1, 99), 60), true},
	} {
		l := of(x.counts...)
		if hold(t, l) != x.may {
			t.Errorf("%v: %t", x.counts, !x.may)
		}
		var words []string
		for _, w := range l {
			var letters []byte
			for at, code := range w.Codes {
				if slices.Contains(w.Soft, at) {
					letters = append(letters, shy...)
				}
				letters = append(letters, byte(code))
			}
			words = append(words, string(letters))
		}
		if holdText(t, strings.Join(words, " ")) != x.may || holdText(t, "  "+strings.Join(words, " \n ")+"\r\n") != x.may {
			t.Errorf("%v, as a text: %t", x.counts, !x.may)
		}
	}
	for n := 1; n <= 30; n++ { // soft hyphens count as no codes
		l := of(times(n, 400/n)...)
		l = l[:min(len(l), 100)]
		for i := range l {
			l[i].Soft = from(1, n-1)
		}
		if !hold(t, l) {
			t.Errorf("%d words of %d codes, parted everywhere", len(l), n)
		}
	}
}

// P13.1: one word among others that may not be, at any place, is enough; words that are the same may be.
func TestOneAmongOthers(t *testing.T) {
	for at := range 9 {
		for _, w := range []api.Word{{}, {Codes: []int{32}}, {Codes: []int{'a', 127}}, {Codes: []int{'a', 'b'}, Soft: []int{2}}, {Codes: []int{'a', 'b'}, Soft: []int{0}}, {Codes: []int{'a', 'b'}, Soft: []int{1, 1}}, {Soft: []int{1}}, long(61)} {
			l := of(times(3, 9)...)
			l[at] = w
			if hold(t, l) {
				t.Errorf("%v at %d", w, at)
			}
		}
	}
	if !hold(t, slices.Repeat(list(word("abcd", 1, 3)), 100)) {
		t.Error("the same words may not be")
	}
}

// P13.2: gaps, alone, mixed, one and many, ahead of words, between, and behind.
func TestGaps(t *testing.T) {
	want := list(word("ab", 1), word("-"), word("xyz"))
	for _, gap := range []string{"\t", "\n", "\r", " ", "\t\t", "\n\n", "\r\r", "  ", "\r\n", "\n\r", " \n", "\t ", "\n\t\r ", " \r\t\n", strings.Repeat("\r\n\t ", 1000)} {
		between := "a" + shy + "b" + gap + "-" + gap + "xyz"
		for _, s := range []string{between, gap + between, between + gap, gap + between + gap, gap + "a" + shy + "b - xyz" + gap, "a" + shy + "b\n-" + gap + "xyz"} {
			if l, e := text.Read([]byte(s)); !same(l, want) || e != api.OK || !holdText(t, s) {
				t.Errorf("%q: %v, %v", s, l, e)
			}
		}
		if l, e := text.Read([]byte(gap)); len(l) != 0 || e != api.ErrText || holdText(t, gap) {
			t.Errorf("%q: %v, %v", gap, l, e)
		}
		for _, s := range []string{"\x00", "\x7f", "a\x80", shy, "a" + shy, shy + "a", "a" + shy + shy + "b", strings.Repeat("a", 61), "é"} {
			if holdText(t, gap+s) || holdText(t, s+gap) || holdText(t, gap+s+gap) || holdText(t, "a"+gap+s) || holdText(t, s+gap+"a") {
				t.Errorf("%q beside %q", s, gap)
			}
		}
	}
	for _, b := range [][]byte{nil, {}} {
		if l, e := text.Read(b); len(l) != 0 || e != api.ErrText {
			t.Errorf("no bytes: %v, %v", l, e)
		}
	}
}

// P13.2: every byte beside words, in one, and alone.
func TestBytes(t *testing.T) {
	for b := range 256 {
		one := string([]byte{byte(b)})
		gap, code := strings.Contains("\t\n\r ", one), b >= 33 && b <= 126
		for _, s := range []string{one, one + one, one + one + one} {
			if holdText(t, s) != code {
				t.Errorf("%q: %t", s, !code)
			}
			for _, around := range []string{"x" + s, s + "x", "x" + s + "y", "x " + s + " y", "x y" + s, s + "x y", "x" + s + "y z", "x" + shy + "y" + s + "z", s + "x" + shy + "y" + s} {
				if holdText(t, around) != (gap || code) {
					t.Errorf("%q: %t", around, gap || code)
				}
			}
		}
		beside := []string{"x" + one + shy + "y", "x" + shy + one + "y", "x" + shy + one, one + shy + "y"}
		for i, s := range beside {
			if holdText(t, s) != code {
				t.Errorf("%d: %q: %t", i, s, !code)
			}
		}
		for c := range 256 {
			two := string([]byte{byte(b), byte(c)})
			holdText(t, two)
			holdText(t, "x"+two)
			holdText(t, two+"y")
			holdText(t, "x"+two+"y")
			if is := b == 194 && c == 173; is && !holdText(t, "x"+two+"y") || !is && (b >= 127 || c >= 127) && holdText(t, "x"+two+"y") {
				t.Errorf("%q between codes: %t", two, !is)
			}
		}
	}
}

// P13.2: soft hyphens, whole and in part, at all places.
func TestSoftHyphens(t *testing.T) {
	for s, is := range map[string]bool{
		"a" + shy + "b": true, "a" + shy + "b" + shy + "c": true, "ab" + shy + "c": true, "-" + shy + "-": true, "!" + shy + "~": true, "a" + shy + "b" + shy + "c" + shy + "d": true,
		shy: false, shy + shy: false, shy + "a": false, "a" + shy: false, shy + "a" + shy: false, shy + "a" + shy + "b": false, "a" + shy + "b" + shy: false, shy + shy + "a": false, "a" + shy + shy: false,
		"a" + shy + shy + "b": false, "a" + shy + shy + shy + "b": false, "a" + shy + "b" + shy + shy + "c": false, "a" + shy + shy + "b" + shy + "c": false,
		"\xc2": false, "\xad": false, "a\xc2": false, "a\xad": false, "\xc2a": false, "\xada": false, "a\xc2b": false, "a\xadb": false, "a\xad\xc2b": false, "a\xc2\xc2\xadb": false, "a\xc2\xad\xadb": false, "a\xc2\xc2b": false, "a\xad\xadb": false, "a\xc2\xc2\xad\xadb": false,
		"a" + shy + "b\xc2": false, "a" + shy + "b\xad": false, "a\xc2b\xadc": false, "a\xc2\xacb": false, "a\xc2\xaeb": false, "a\xc3\xadb": false, "a\xc1\xadb": false, "a\x42\xadb": false, "a\xc2-b": false, "a\xc2\xa0b": false, "a\xc2\x85b": false,
		"a\xe2\x80\x91b": false, "a\xe2\x80\x90b": false, "a\xe0\x82\xadb": false, "a\xc2\x00b": false, "a\xe2\x80\x8bb": false, "a\u0345b": false,
	} {
		holdBytes(t, s, is)
	}
	for _, gap := range []string{" ", "\t", "\n", "\r", "\r\n"} {
		for _, s := range []string{"a" + gap + shy + gap + "b", gap + shy + gap, "a" + shy + gap + "b", "a" + gap + shy + "b", "a\xc2" + gap + "\xadb", "a\xc2" + gap + "b", "a" + gap + "\xadb", "a" + gap + "\xc2b", "a\xc2" + gap, "a\xad" + gap, gap + "\xc2" + gap, "a\xc2" + gap + "\xad", "a " + shy + gap + shy + "b", "a" + shy + "b" + gap + shy} {
			if l, e := text.Read([]byte(s)); len(l) != 0 || e != api.ErrText || holdText(t, s) {
				t.Errorf("%q: %v, %v", s, l, e)
			}
		}
		if l, e := text.Read([]byte("a" + shy + "b" + gap + "cd" + shy + "e" + gap + "f")); !same(l, list(word("ab", 1), word("cde", 2), word("f"))) || e != api.OK {
			t.Errorf("%q: %v, %v", gap, l, e)
		}
	}
}

// P13.2: all texts of up to six of some bytes.
func TestAllShortTexts(t *testing.T) {
	is := 0
	texts := []string{""}
	for range 6 {
		var longer []string
		for _, s := range texts {
			for _, b := range []byte("a~\xc2\xad \n\x7f") {
				longer = append(longer, s+string([]byte{b}))
			}
		}
		for _, s := range longer {
			if holdText(t, s) {
				is++
			}
		}
		texts = longer
	}
	if is < 5000 || is > 20000 {
		t.Errorf("%d have words", is)
	}
}

// P13.2: words that may not be, between those that may.
func TestReadOneAmongOthers(t *testing.T) {
	for _, bad := range []string{"\x80", "a\x7fb", "\x01", "é", shy + "b", "b" + shy, "b" + shy + shy + "c", "b\xc2", "\xadb", strings.Repeat("b", 61), strings.Repeat("b"+shy, 60) + "b", strings.Repeat("b", 400), strings.Repeat(shy, 400)} {
		for at := range 8 {
			words := strings.Fields("a b-c d e f g h i")
			if !holdText(t, strings.Join(words, " ")) {
				t.Errorf("%q", words)
			}
			words[at] = bad
			for _, gap := range []string{" ", "\n", "\r\n\t"} {
				if holdText(t, strings.Join(words, gap)) || holdText(t, gap+strings.Join(words, gap)+gap) {
					t.Errorf("%q", words)
				}
			}
		}
	}
}

// P13.2: no rune but those of the chapter has a place in a word, or between words.
func TestRunes(t *testing.T) {
	for r := rune(128); r <= utf8.MaxRune; r++ {
		for _, s := range []string{"a" + string(r) + "b", "a " + string(r) + " b"} {
			if l, e := text.Read([]byte(s)); (e == api.OK) != (s == "a"+shy+"b") || e != api.OK && (len(l) != 0 || e != api.ErrText) {
				t.Errorf("%U: %v, %v", r, l, e)
			}
		}
	}
}

// P13.1, P13.2, P13.3: words of all kinds are written, and read again; as a text with other gaps, too.
func TestWrittenIsRead(t *testing.T) {
	source := rand.New(rand.NewSource(133))
	all := append(some(3000), of(times(4, 100)...), of(append(times(60, 6), 40)...), list(long(60, from(1, 59)...)), list(word("!")))
	for i, l := range all {
		if !hold(t, l) {
			t.Errorf("%d may not be", i)
		}
		b, _ := text.Write(l)
		gaps := []string{" ", "  ", "\n", "\r\n", "\t", " \n\t\r "}
		s := gapForm.ReplaceAllStringFunc(" "+string(b)+" ", func(string) string { return gaps[source.Intn(len(gaps))] })
		m, e := text.Read([]byte(s))
		if !same(l, m) || e != api.OK {
			t.Errorf("%q: %v, %v", s, m, e)
		}
		if again, e := text.Write(m); !bytes.Equal(b, again) || e != api.OK || !text.Check(m) {
			t.Errorf("%q: %q, %v", b, again, e)
		}
		if bytes.Count(b, []byte(" ")) != len(l)-1 || bytes.ContainsAny(b, "\t\n\r") || bytes.Contains(b, []byte("  ")) || b[0] == ' ' || b[len(b)-1] == ' ' {
			t.Errorf("%q", b)
		}
	}
}

// P13.1, P13.2, P13.3: texts and words that are changed at any place.
func TestNoise(t *testing.T) {
	source := rand.New(rand.NewSource(1313))
	may, not := 0, 0
	for _, l := range some(4000) {
		s, _ := written(l)
		b := []byte(s)
		for range 1 + source.Intn(3) {
			at := source.Intn(len(b) + 1)
			switch c := []byte("az!~-\xc2\xad \n\r\t\x7f\x1f\x00\x80\xff")[source.Intn(16)]; source.Intn(3) {
			case 0:
				b = slices.Insert(b, at, c)
			case 1:
				b = slices.Delete(b, at, min(at+1, len(b)))
			case 2:
				if at < len(b) {
					b[at] = c
				}
			}
		}
		if holdText(t, string(b)) {
			may++
		} else {
			not++
		}
		w := &l[source.Intn(len(l))]
		if len(w.Soft) > 0 {
			w.Soft[source.Intn(len(w.Soft))] += source.Intn(5) - 2
		} else {
			w.Codes[source.Intn(len(w.Codes))] += source.Intn(100) - 50
		}
		if hold(t, l) {
			may++
		} else {
			not++
		}
	}
	if may < 1000 || not < 1000 {
		t.Errorf("%d may be, %d not", may, not)
	}
}

// R1, for P13.1 and P13.2: what is long ends, too.
func TestLong(t *testing.T) {
	const n = 1 << 22
	for _, part := range []string{"a", "-", shy, "a" + shy, "\xc2", "\xad", "é", "\xff", "a ", "ab\r\n", "a" + shy + "b\n", shy + " ", "\x00", " ", "\r\n"} {
		b := bytes.Repeat([]byte(part), n)
		if l, e := text.Read(b); e != api.ErrText || len(l) != 0 {
			t.Errorf("%q: %d, %v", part, len(l), e)
		}
	}
	b := slices.Concat(bytes.Repeat([]byte(" "), n), []byte("a"+shy+"b"), bytes.Repeat([]byte("\r\n"), n))
	if l, e := text.Read(b); e != api.OK || !same(l, list(word("ab", 1))) {
		t.Errorf("%v, %v", l, e)
	}
	for i, l := range [][]api.Word{{{Codes: times('a', n)}}, {{Codes: times('a', 60), Soft: from(1, n)}}, {{Codes: times('a', 60), Soft: times(1, n)}}, slices.Repeat(list(word("a")), n), make([]api.Word, n), {{Codes: times('a', n), Soft: from(1, n-1)}}} {
		if b, e := text.Write(l); text.Check(l) || len(b) != 0 || e != api.ErrText {
			t.Errorf("%d: %d, %v", i, len(b), e)
		}
	}
}

// R4, for P13.1: lists without elements may be nil or not.
func TestNil(t *testing.T) {
	if !hold(t, list(api.Word{Codes: []int{'a'}, Soft: []int{}})) || !hold(t, list(api.Word{Codes: []int{'a'}, Soft: make([]int, 0, 9)})) {
		t.Error("a word of no places may not be")
	}
	for _, l := range [][]api.Word{nil, {}, make([]api.Word, 0, 9), {{}}, {{Codes: []int{}}}, {{Codes: []int{}, Soft: []int{}}}, {{Codes: make([]int, 0, 9)}}, {{Soft: []int{1}}}} {
		if hold(t, l) {
			t.Errorf("%v may be", l)
		}
	}
}

// roomy are words with spare room behind all lists, in which there is what may not be.
func roomy(l []api.Word) []api.Word {
	m := copied(l)
	for i, w := range m {
		m[i].Codes = append(slices.Clone(w.Codes), 32, -1)[:len(w.Codes)]
		m[i].Soft = append(slices.Clone(w.Soft), 0, 99)[:len(w.Soft)]
	}
	return append(m, api.Word{}, word(" "))[:len(m)]
}

// whole are words, and all that stands in the spare room of their lists, in memory of their own.
func whole(l []api.Word) []api.Word {
	m := slices.Clone(l[:cap(l)])
	for i, w := range m {
		m[i] = api.Word{Codes: slices.Clone(w.Codes[:cap(w.Codes)]), Soft: slices.Clone(w.Soft[:cap(w.Soft)])}
	}
	return m
}

// R4, for P13.1 and P13.2: what is handed in stays as it is, its spare room too, and that counts for nothing.
func TestHandedInStays(t *testing.T) {
	all := append(some(300), of(times(4, 100)...), list(word("a", 1)), list(long(61)), of(times(60, 7)...), nil)
	for i, l := range all {
		m := roomy(l)
		was := whole(m)
		if hold(t, m) != mayBe(l) || !same(whole(m), was) {
			t.Errorf("%d: %v", i, l)
		}
		words, _ := written(l)
		for _, s := range []string{words, words + " \xc2", words + " ", words + "\xc2", " \n", ""} {
			b := append([]byte(s), "\xad \x00x"...)[:len(s)]
			x, e := text.Read(b)
			want, y := parsed(s)
			if !same(x, want) || e != y || string(b[:len(s)+4]) != s+"\xad \x00x" {
				t.Errorf("%q: %v, %v, %q", s, x, e, b[:len(s)+4])
			}
		}
	}
}

// numbers are all lists of numbers of words, their spare room, too.
func numbers(l []api.Word) [][]int {
	var all [][]int
	for _, w := range l {
		all = append(all, w.Codes[:cap(w.Codes)], w.Soft[:cap(w.Soft)])
	}
	return all
}

// wipe sets all lists of words, and their spare room, to other things.
func wipe(l []api.Word) {
	for _, m := range numbers(l) {
		for i := range m {
			m[i] ^= 1 << 40
		}
	}
	clear(l[:cap(l)])
}

// R4, for P13.1 and P13.2: a change of an answer, or of its spare room, changes neither what was handed in nor another answer; a change of what was handed in changes no answer.
func TestMemory(t *testing.T) {
	for i, l := range append(some(300), of(times(4, 100)...), list(word("a")), of(60)) {
		m := roomy(l)
		a, _ := text.Write(m)
		b, _ := text.Write(m)
		want := string(a)
		x, _ := text.Read(a)
		y, _ := text.Read(a)
		clear(b[:cap(b)])
		wipe(y)
		if z, e := text.Read(a); string(a) != want || !same(m, l) || !same(x, l) || !same(z, l) || e != api.OK {
			t.Errorf("%d: a change of an answer changes more", i)
		}
		if c, e := text.Write(m); string(c) != want || e != api.OK {
			t.Errorf("%d: a change of an answer changes a later one", i)
		}
		wipe(m)
		c := bytes.Clone(a)
		clear(a[:cap(a)])
		if string(c) != want || !same(x, l) {
			t.Errorf("%d: a change of what was handed in changes an answer", i)
		}
	}
}

// R4, for P13.2: no two lists of one answer share memory, spare room neither.
func TestListsOfOneAnswer(t *testing.T) {
	for _, l := range append(some(100), of(times(4, 100)...), slices.Repeat(list(word("abc", 1, 2)), 30)) {
		s, _ := written(l)
		m, _ := text.Read([]byte(s))
		all := numbers(m)
		for i := range all {
			for k := range all[i] {
				all[i][k] = 1000 + i
			}
		}
		for i := range all {
			if slices.ContainsFunc(all[i], func(n int) bool { return n != 1000+i }) {
				t.Errorf("%q: list %d", s, i)
			}
		}
	}
}

// R5, for P13.1 and P13.2: answers hang on what is handed in alone, not on what was asked ahead of it, or is asked at once.
func TestAtOnce(t *testing.T) {
	l := append(some(80), of(times(4, 100)...), of(times(5, 100)...), list(word("a", 1)), nil)
	var all sync.WaitGroup
	for n := range 8 {
		all.Go(func() {
			for i := range len(l) {
				words := l[(i*(2*n+1)+n)%len(l)]
				s, _ := written(words)
				hold(t, words)
				holdText(t, s)
				holdText(t, s+"\xc2")
			}
		})
	}
	all.Wait()
}
