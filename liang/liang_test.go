package liang_test

import (
	"bytes"
	"math"
	"math/rand"
	"slices"
	"strings"
	"sync"
	"testing"
	"unicode/utf8"

	"compositor/api"
	"compositor/liang"
)

// hold holds Check, Write, and Parse of what is written, against the chapter's words, and tells whether patterns may be.
func hold(t *testing.T, p api.Patterns) bool {
	t.Helper()
	may := mayBe(p)
	if liang.Check(p) != may {
		t.Errorf("Check(%v): %t", p, !may)
	}
	want, x := written(p)
	text, e := liang.Write(p)
	if string(text) != want || e != x {
		t.Errorf("Write(%v): %q, %v, not %q, %v", p, text, e, want, x)
	}
	if !may {
		return false
	}
	if q, e := liang.Parse(text); !same(p, q) || e != api.OK {
		t.Errorf("Parse(%q): %v, %v, not %v", text, q, e, p)
	}
	return true
}

// holdText holds Parse, and Check and Write of what is read, against the chapter's words, and tells whether there are patterns of a text.
func holdText(t *testing.T, text string) bool {
	t.Helper()
	want, x := parsed(text)
	p, e := liang.Parse([]byte(text))
	if !same(p, want) || e != x {
		t.Errorf("Parse(%q): %v, %v, not %v, %v", text, p, e, want, x)
	}
	return e == api.OK && hold(t, p)
}

// holdOne holds a word against whether it is a pattern's or an exception's, alone and between others.
func holdOne(t *testing.T, word string, is bool) {
	t.Helper()
	for _, text := range []string{word, " " + word, word + "\n", "a1b " + word + " ta-ble"} {
		if holdText(t, text) != is {
			t.Errorf("%q: %t", text, !is)
		}
	}
}

// P10.1, P10.2: the chapter's example.
func TestExample(t *testing.T) {
	want := api.Patterns{List: []api.Pattern{of(".ab", 0, 0, 1, 0)}, But: []api.Exception{but("table", 2)}}
	if p, e := liang.Parse([]byte(".a1b ta-ble")); !same(p, want) || e != api.OK {
		t.Errorf("%v, %v", p, e)
	}
	if text, e := liang.Write(want); string(text) != ".a1b\nta-ble\n" || e != api.OK {
		t.Errorf("%q, %v", text, e)
	}
	if !liang.Check(want) {
		t.Error("it may not be")
	}
}

// P10.1, P10.2: how many letters a pattern has, and where there are dots.
func TestLetters(t *testing.T) {
	for _, x := range []struct {
		ahead, behind string
		may           bool
	}{{"", "", true}, {".", "", true}, {"", ".", true}, {".", ".", true}, {"..", "", false}, {"", "..", false}, {"..", ".", false}, {".", "..", false}, {"..", "..", false}} {
		for n := range api.MaxWord + 3 {
			p := flat(x.ahead+strings.Repeat("m", n)+x.behind, 0)
			if hold(t, list(p)) != (x.may && 1 <= n && n <= api.MaxWord) {
				t.Errorf("%q", p.Letters)
			}
		}
		for at := 1; at < len(az); at++ {
			p := flat(x.ahead+az[:at]+"."+az[at:]+x.behind, 0)
			if hold(t, list(p)) {
				t.Errorf("%q", p.Letters)
			}
		}
		if hold(t, list(flat(x.ahead+strings.Repeat(az, 50)+x.behind, 0))) {
			t.Errorf("%q, %q: many letters", x.ahead, x.behind)
		}
	}
}

// P10.1: patterns' letters, written out, with the Values that they need.
func TestLettersWrittenOut(t *testing.T) {
	for letters, may := range map[string]bool{
		"": false, ".": false, "..": false, "...": false, "a": true, ".a": true, "a.": true, ".a.": true,
		"a.b": false, ".a.b": false, "a.b.": false, ".a.b.": false, "..a": false, "a..": false, "..a..": false, "az": true,
		"`": false, "{": false, "a`": false, "`a": false, "z{": false, "{z": false, "azb": true, "a{b": false, "A": false, "Z": false, "aBc": false,
		" ": false, "a ": false, " a": false, "a b": false, "a\n": false, "\na": false, "a\x1fb": false, "a\x00": false, "\x00": false, "a\x7f": false,
		"a\x80": false, "\xff": false, "\xe1": false, "é": false, "aéb": false, "ſ": false, "š": false, "K": false, "a\xc3": false, "ａ": false,
		"a1": false, "0": false, "1a": false, "a-b": false, "-": false, "a-": false, "a,b": false, "a/b": false, ".-": false,
	} {
		if hold(t, list(flat(letters, 0))) != may || hold(t, list(flat(letters, 5))) != may {
			t.Errorf("%q: %t", letters, !may)
		}
	}
	for b := range 256 {
		for _, p := range []api.Pattern{flat(string([]byte{byte(b)}), 0), flat(string([]byte{'a', byte(b), 'z'}), 1), flat(string([]byte{'a', byte(b)}), 2), flat(string([]byte{byte(b), 'z'}), 9)} {
			hold(t, list(p))
			hold(t, api.Patterns{List: []api.Pattern{of("a", 0, 1), p}, But: []api.Exception{but("ab", 1)}})
		}
		for _, x := range []api.Exception{but(string([]byte{'a', byte(b), 'z'}), 1), but(string([]byte{'a', byte(b)}), 1), but(string([]byte{byte(b), 'z'}), 1)} {
			may := hold(t, buts(x))
			if may != (b >= 'a' && b <= 'z') {
				t.Errorf("%q: %t", x.Word, may)
			}
		}
	}
}

// P10.1: as many Values as there have to be, and each of them.
func TestValues(t *testing.T) {
	for _, letters := range []string{"a", "ab", ".a", "a.", ".a.", az, "." + az, az + ".", "." + az + "."} {
		for n := range len(letters) + 5 {
			if hold(t, list(of(letters, make([]int, n)...))) != (n == len(letters)+1) {
				t.Errorf("%q, %d Values", letters, n)
			}
		}
		if hold(t, list(of(letters))) {
			t.Errorf("%q, no Values", letters)
		}
		for at := range len(letters) + 1 {
			for _, v := range []int{math.MinInt, -256, -10, -9, -1, 0, 1, 2, 8, 9, 10, 11, 49, 57, 255, 256, 257, 1 << 32, 1<<32 + 1, math.MaxInt} {
				for _, others := range []int{0, 7} {
					p := flat(letters, others)
					p.Values[at] = v
					if hold(t, list(p)) != (0 <= v && v <= 9) {
						t.Errorf("%v", p)
					}
				}
			}
		}
	}
}

// P10.1: patterns' and exceptions' words, written out.
func TestWrittenOut(t *testing.T) {
	for want, p := range map[string]api.Patterns{
		"":                      {},
		"a\n":                   list(of("a", 0, 0)),
		"1a\n":                  list(of("a", 1, 0)),
		"a9\n":                  list(of("a", 0, 9)),
		"1a9\n":                 list(of("a", 1, 9)),
		"3.4a5.6\n":             list(of(".a.", 3, 4, 5, 6)),
		".a.\n":                 list(of(".a.", 0, 0, 0, 0)),
		".1a\n":                 list(of(".a", 0, 1, 0)),
		"1.a\n":                 list(of(".a", 1, 0, 0)),
		"a1.\n":                 list(of("a.", 0, 1, 0)),
		"a.1\n":                 list(of("a.", 0, 0, 1)),
		"a1b2c\n":               list(of("abc", 0, 1, 2, 0)),
		"a-b\n":                 buts(but("ab", 1)),
		"a-b-c\n":               buts(but("abc", 1, 2)),
		"ab-c\n":                buts(but("abc", 2)),
		"z\na\nz-a\na-z\n":      {List: []api.Pattern{of("z", 0, 0), of("a", 0, 0)}, But: []api.Exception{but("za", 1), but("az", 1)}},
		"a\na\na-b\na-b\na-b\n": {List: []api.Pattern{of("a", 0, 0), of("a", 0, 0)}, But: []api.Exception{but("ab", 1), but("ab", 1), but("ab", 1)}},
	} {
		if text, e := liang.Write(p); string(text) != want || e != api.OK || !hold(t, p) {
			t.Errorf("%v: %q, %v", p, text, e)
		}
		if q, e := liang.Parse([]byte(want)); !same(p, q) || e != api.OK {
			t.Errorf("%q: %v, %v", want, q, e)
		}
	}
}

// P10.1: how many letters an exception has, and where it may be parted.
func TestExceptions(t *testing.T) {
	for _, x := range []struct {
		word string
		at   []int
		may  bool
	}{
		{"", nil, false}, {"", []int{0}, false}, {"", []int{1}, false},
		{"a", nil, false}, {"a", []int{0}, false}, {"a", []int{1}, false}, {"a", []int{2}, false},
		{"ab", nil, false}, {"ab", []int{0}, false}, {"ab", []int{1}, true}, {"ab", []int{2}, false}, {"ab", []int{3}, false}, {"ab", []int{-1}, false}, {"ab", []int{0, 1}, false}, {"ab", []int{1, 2}, false}, {"ab", []int{1, 1}, false},
		{"abcde", []int{1, 2, 3, 4}, true}, {"abcde", []int{0, 1, 2, 3, 4}, false}, {"abcde", []int{1, 2, 3, 4, 5}, false},
		{"abcde", []int{1}, true}, {"abcde", []int{4}, true}, {"abcde", []int{5}, false}, {"abcde", []int{0}, false}, {"abcde", []int{1, 4}, true}, {"abcde", []int{2, 3}, true},
		{"abcde", []int{4, 1}, false}, {"abcde", []int{3, 2}, false}, {"abcde", []int{1, 3, 2}, false}, {"abcde", []int{2, 1, 3}, false}, {"abcde", []int{2, 2}, false}, {"abcde", []int{1, 3, 3}, false}, {"abcde", []int{1, 1, 3}, false},
		{"abcde", []int{math.MinInt}, false}, {"abcde", []int{math.MaxInt}, false}, {"abcde", []int{math.MaxInt, math.MinInt}, false}, {"abcde", []int{math.MinInt, 1}, false}, {"abcde", []int{1, math.MaxInt}, false}, {"abcde", []int{1, math.MaxInt, math.MinInt}, false}, {"abcde", []int{1<<32 + 1}, false},
		{az, []int{1}, true}, {az, []int{39}, true}, {az, []int{40}, false}, {az, []int{41}, false}, {az, from(1, 39), true}, {az, from(0, 39), false}, {az, from(1, 40), false},
		{az[:39], []int{38}, true}, {az[:39], []int{39}, false},
		{az + "a", []int{1}, false}, {az + "a", []int{40}, false}, {az + "a", from(1, 40), false}, {az + az, []int{3}, false},
		{".ab", []int{2}, false}, {"ab.", []int{1}, false}, {"a.b", []int{1}, false}, {"a.b", []int{2}, false}, {".", []int{1}, false}, {"..", []int{1}, false}, {".ab.", []int{2}, false}, {"a.", []int{1}, false}, {".a", []int{1}, false},
		{"a-b", []int{1}, false}, {"a-b", []int{2}, false}, {"a1b", []int{1}, false}, {"aB", []int{1}, false}, {"Ab", []int{1}, false}, {"`a", []int{1}, false}, {"a{", []int{1}, false}, {"a b", []int{1}, false}, {"a\n", []int{1}, false}, {"aé", []int{1}, false}, {"é", []int{1}, false}, {"a\xff", []int{1}, false},
	} {
		if hold(t, buts(but(x.word, x.at...))) != x.may {
			t.Errorf("%q, %v: %t", x.word, x.at, !x.may)
		}
		hold(t, api.Patterns{List: []api.Pattern{of("a", 0, 1)}, But: []api.Exception{but("xyz", 1), but(x.word, x.at...), but("xyz", 2)}})
	}
	for n := 2; n <= api.MaxWord; n++ {
		for at := -1; at <= n+1; at++ {
			if hold(t, buts(but(az[:n], at))) != (1 <= at && at < n) {
				t.Errorf("%d letters, behind %d", n, at)
			}
		}
	}
}

// P10.1, P10.2: how many patterns and exceptions there are.
func TestCounts(t *testing.T) {
	for _, x := range []struct {
		patterns, exceptions int
		may                  bool
	}{{0, 0, true}, {1, 0, true}, {0, 1, true}, {299, 0, true}, {300, 0, true}, {301, 0, false}, {0, 299, true}, {0, 300, true}, {0, 301, false}, {299, 1, true}, {1, 299, true}, {150, 150, true}, {300, 1, false}, {1, 300, false}, {299, 2, false}, {2, 299, false}, {151, 150, false}, {150, 151, false}, {300, 300, false}, {600, 0, false}} {
		p := numbered(x.patterns, x.exceptions)
		if hold(t, p) != x.may {
			t.Errorf("%d and %d: %t", x.patterns, x.exceptions, !x.may)
		}
		var words []string
		for _, y := range p.List {
			words = append(words, wordOf(list(y)))
		}
		for _, y := range p.But {
			words = append(words, wordOf(buts(y)))
		}
		for range 3 {
			if holdText(t, strings.Join(words, " ")) != x.may || holdText(t, " "+strings.Join(words, "\r\n")+"\r\n\n\n") != x.may {
				t.Errorf("%d and %d, as a text: %t", x.patterns, x.exceptions, !x.may)
			}
			rand.New(rand.NewSource(int64(len(words)))).Shuffle(len(words), func(i, j int) { words[i], words[j] = words[j], words[i] })
		}
	}
	for _, n := range []int{2, 300, 301} {
		one, other := slices.Repeat([]api.Pattern{of(".ab", 0, 0, 1, 0)}, n), slices.Repeat([]api.Exception{but("table", 2)}, n)
		if hold(t, list(one...)) != (n <= 300) || hold(t, buts(other...)) != (n <= 300) {
			t.Errorf("%d times the same", n)
		}
	}
}

// wordOf is the word of one pattern, or exception.
func wordOf(p api.Patterns) string {
	text, _ := written(p)
	return strings.TrimSpace(text)
}

// P10.1: one among others that may not be, at any place, is enough; patterns of one Letters, and exceptions of one Word, may be.
func TestOneAmongOthers(t *testing.T) {
	for at := range 7 {
		p := numbered(7, 7)
		p.List[at].Values[1] = 10
		q := numbered(7, 7)
		q.But[at].At[0] = 3
		if hold(t, p) || hold(t, q) {
			t.Errorf("at %d", at)
		}
	}
	p := api.Patterns{List: []api.Pattern{of("ab", 0, 1, 0), of("ab", 0, 2, 0), of("ab", 0, 1, 0)}, But: []api.Exception{but("abc", 1), but("abc", 2), but("abc", 1, 2), but("abc", 1)}}
	if !hold(t, p) {
		t.Error("they may not be")
	}
}

// P10.2: words, written out, that are a pattern's or an exception's, and that are neither.
func TestWords(t *testing.T) {
	for word, is := range map[string]bool{
		"a": true, "z": true, "1a": true, "a1": true, "9a9": true, "a1b": true, ".a": true, "a.": true, ".a.": true, "1.2a3.4": true, "a9z": true, "abc": true,
		"a-b": true, "a-b-c": true, "ta-ble": true, "z-z": true,
		"12a": false, "a12b": false, "a12": false, "a1b23c": false, "11a": false, "a99": false, "1.23a": false, "a.12": false,
		"0": false, "0a": false, "a0": false, "a0b": false, "a00b": false, "a10b": false, "a01b": false, "0.a": false, ".0a": false, "a.0": false, "0a0b0": false,
		"-": false, "--": false, "-a": false, "a-": false, "-a-b": false, "a-b-": false, "a--b": false, "a---b": false, "-a-": false, "-ab": false, "ab-": false, "--ab": false, "ab--": false,
		"a1-b": false, "a-1b": false, "1a-b": false, "a-b1": false, "a-b2c": false, "a0-b": false, "a-0b": false, "a1-": false, "-1a": false, "1-a": false, "a-1": false, "1-1": false, "-1": false, "1-": false,
		"1": false, "9": false, "12": false, ".": false, "..": false, "1.": false, ".1": false, "1.1": false, ".1.": false, "1.2.3": false, ".-": false, "-.": false, ".-.": false,
		".a-b": false, "a-b.": false, ".a-b.": false, "a.-b": false, "a-.b": false, "a-.": false, ".-a": false, "a-b-.": false,
		"..a": false, "a..": false, "a.b": false, ".a.b": false, "a.b.": false, "a1.b": false, "a.1b": false, "1.1.a": false, "a.1.": false,
		"A": false, "aB": false, "A-b": false, "a-B": false, "Z1a": false, "`": false, "{": false, "a`b": false, "a{b": false, "`-a": false, "a-{": false,
		"a,b": false, "a/b": false, "a:b": false, "a+b": false, "a_b": false, "a\x00b": false, "\x00": false, "a\x0bb": false, "a\x0cb": false, "a\x1f": false, "a\x7f": false, "a\x1cb": false,
		"\xc2\xad": false, "ta\xc2\xadble": false, "a\u2010b": false, "a\u00a0b": false, "a\u0085b": false, "a\u2003b": false, "\u3000": false, "\ufeffa": false, "a\u2028b": false,
		"é": false, "aé": false, "éa": false, "a-é": false, "š": false, "ſ": false, "\u0131": false, "а": false, "ａ": false, "１a": false, "a١": false, "．a": false,
		"\x80": false, "\xff": false, "\xc3": false, "a\xc3": false, "\xa9a": false, "a\xe2\x82": false, "\xe2\x82b": false, "a\xed\xa0\x80b": false, "a\xf0\x9f\x98": false, "a\xc0\xa0b": false, "a\xc0\x8ab": false, "a\xc1\xa1b": false, "\xe1": false, "a\xb1b": false, "a\x85b": false, "a\xa0b": false, "\ufffd": false, "a\ufffdb": false, "a\xadb": false, "a\xaeb": false,
	} {
		holdOne(t, word, is)
	}
}

// P10.2: words of as many letters as there may be, and of more.
func TestLongWords(t *testing.T) {
	numbers, hyphens := strings.Join(strings.Split(az, ""), "9"), strings.Join(strings.Split(az, ""), "-")
	for word, is := range map[string]bool{
		az: true, "." + az + ".": true, numbers: true, "9" + numbers + "9": true, "9.9" + numbers + "9.9": true, "9.9" + numbers + "9.": true, hyphens: true, az[:39] + "-" + az[39:]: true, az[:1] + "-" + az[1:]: true,
		az + "a": false, "." + az + "a.": false, "a" + az: false, numbers + "9a": false, "a9" + numbers: false, "9.9" + numbers + "9a9.9": false, "9.9" + numbers + "9.9.": false, "9.9" + numbers + "9.99": false,
		"99.9" + numbers + "9.9": false, "9.9" + numbers + "9..9": false, "." + az + "..": false, ".." + az + ".": false, "9.9" + numbers + "9.0": false,
		hyphens + "-a": false, "a-" + hyphens: false, az + "-a": false, "a-" + az: false, hyphens + "-": false, "-" + hyphens: false, hyphens + "a": false, hyphens + ".": false, hyphens + "1": false, strings.Replace(hyphens, "-", "--", 1): false,
		strings.Repeat("a", 85): false, strings.Repeat("a", 86): false, strings.Repeat("a", 4000): false, strings.Repeat("a-b-", 40) + "a": false, strings.Repeat(".", 85): false, strings.Repeat("-", 79): false, strings.Repeat("1", 85): false, strings.Repeat("é", 42): false,
	} {
		holdOne(t, word, is)
	}
	for n := 1; n <= 45; n++ {
		letters := strings.Repeat("m", n)
		for _, word := range []string{letters, "." + letters, letters + ".", "." + letters + ".", "1" + letters, letters + "1", strings.Repeat("1m", n) + "1", "1." + strings.Repeat("1m", n) + "1.1"} {
			holdOne(t, word, n <= 40)
		}
		for _, word := range []string{letters[1:] + "-m", "m-" + letters[1:], strings.Repeat("-m", n)[1:]} {
			holdOne(t, word, n > 1 && n <= 40 || word == "m")
		}
	}
}

// P10.2: all words of up to five of some bytes.
func TestAllShortWords(t *testing.T) {
	is := 0
	words := []string{""}
	for range 5 {
		var longer []string
		for _, word := range words {
			for _, b := range "az.-019A" {
				longer = append(longer, word+string(b))
			}
		}
		for _, word := range longer {
			if holdText(t, word) {
				is++
			}
		}
		words = longer
	}
	if is < 1000 || is > 10000 {
		t.Errorf("%d are words", is)
	}
}

// P10.2: gaps of each byte that is one, and of none, ahead of words, between, and behind.
func TestGaps(t *testing.T) {
	want := api.Patterns{List: []api.Pattern{of("ab", 0, 1, 0), of(".c", 0, 0, 2)}, But: []api.Exception{but("xyz", 1)}}
	for b := range 256 {
		one := string([]byte{byte(b)})
		for _, gap := range []string{one, one + one, one + " " + one, " " + one, one + "\n"} {
			is := strings.Contains("\t\n\r ", one)
			for _, text := range []string{"a1b" + gap + "x-yz" + gap + ".c2", gap + "a1b" + gap + "x-yz" + gap + ".c2" + gap, gap + "a1b" + gap + ".c2 x-yz" + gap, gap + "a1b x-yz .c2", "a1b .c2 x-yz" + gap} {
				if p, e := liang.Parse([]byte(text)); is && (!same(p, want) || e != api.OK) {
					t.Errorf("%q: %v, %v", text, p, e)
				}
				if holdText(t, text) != is && !strings.Contains("abcdefghijklmnopqrstuvwxyz.-123456789", one) {
					t.Errorf("%q: %t", text, !is)
				}
			}
			if holdText(t, gap) != is && !strings.Contains("abcdefghijklmnopqrstuvwxyz", one) {
				t.Errorf("%q: %t", gap, !is)
			}
		}
	}
	for _, text := range []string{"", " ", "\n", "\t\r\n ", " \n \n\n", strings.Repeat("\r\n\t ", 1000)} {
		if p, e := liang.Parse([]byte(text)); len(p.List) != 0 || len(p.But) != 0 || e != api.OK {
			t.Errorf("%q: %v, %v", text, p, e)
		}
		holdText(t, text)
		holdText(t, text+"a1b"+text+"x-yz"+text+"12"+text)
		holdText(t, text+"a1b"+text+" x-yz"+text)
	}
	if p, e := liang.Parse(nil); len(p.List) != 0 || len(p.But) != 0 || e != api.OK {
		t.Errorf("%v, %v", p, e)
	}
}

// P10.2: patterns and exceptions mixed, in any order: each of them is in its own one.
func TestOrder(t *testing.T) {
	p, e := liang.Parse([]byte("c-d 2b ba a-b .a1 2b a-b-c c-d"))
	want := api.Patterns{List: []api.Pattern{of("b", 2, 0), of("ba", 0, 0, 0), of(".a", 0, 0, 1), of("b", 2, 0)}, But: []api.Exception{but("cd", 1), but("ab", 1), but("abc", 1, 2), but("cd", 1)}}
	if !same(p, want) || e != api.OK {
		t.Errorf("%v, %v", p, e)
	}
	source := rand.New(rand.NewSource(101))
	for i, p := range some(300) {
		var words []string
		for _, x := range p.List {
			words = append(words, wordOf(list(x)))
		}
		for _, x := range p.But {
			words = slices.Insert(words, source.Intn(len(words)+1), wordOf(buts(x)))
		}
		if !holdText(t, strings.Join(words, " \t\r\n"[i%4:i%4+1])) {
			t.Errorf("%q", words)
		}
		source.Shuffle(len(words), func(i, j int) { words[i], words[j] = words[j], words[i] })
		if !holdText(t, strings.Join(words, "\n")) {
			t.Errorf("%q", words)
		}
	}
}

// P10.2: no rune but those of the chapter has a place in a word, or between words.
func TestRunes(t *testing.T) {
	for r := rune(128); r <= utf8.MaxRune; r++ {
		if p, e := liang.Parse([]byte("a" + string(r) + "b")); e != api.ErrPattern || len(p.List) != 0 || len(p.But) != 0 {
			t.Errorf("%U: %v, %v", r, p, e)
		}
	}
	for b := 128; b < 256; b++ {
		for c := range 256 {
			for _, word := range []string{string([]byte{byte(b), byte(c)}), string([]byte{'a', byte(b), byte(c), 'b'}), string([]byte{'a', byte(b), '-', byte(c), 'b'})} {
				if p, e := liang.Parse([]byte(word)); e != api.ErrPattern || len(p.List) != 0 || len(p.But) != 0 {
					t.Errorf("%q: %v, %v", word, p, e)
				}
			}
		}
	}
}

// P10.1, P10.2, P10.3: patterns of all kinds are written, and read again.
func TestWrittenIsRead(t *testing.T) {
	all := append(some(1500), api.Patterns{}, numbered(300, 0), numbered(0, 300), numbered(77, 223), list(flat("."+az+".", 9)), buts(but(az, from(1, 39)...)))
	for i, p := range all {
		if !hold(t, p) {
			t.Errorf("%d may not be", i)
		}
		text, _ := liang.Write(p)
		q, _ := liang.Parse(text)
		if again, e := liang.Write(q); !bytes.Equal(text, again) || e != api.OK || !liang.Check(q) {
			t.Errorf("%q: %q, %v", text, again, e)
		}
	}
}

// P10.1, P10.2, P10.3: texts and patterns that are changed at any place.
func TestNoise(t *testing.T) {
	source := rand.New(rand.NewSource(1010))
	may, not := 0, 0
	for i, p := range some(2500) {
		text, _ := written(p)
		b := []byte(text)
		for range 1 + source.Intn(2) {
			at := source.Intn(len(b) + 1)
			switch c := "az.-0159 \n\r\tA`{\x80é"[source.Intn(18)]; source.Intn(3) {
			case 0:
				b = slices.Insert(b, at, c)
			case 1:
				b = slices.Delete(b, at, min(at+1, len(b)))
			case 2:
				if at < len(b) {
					b[at] = c
				}
			}
		}
		if holdText(t, string(b)) {
			may++
		} else {
			not++
		}
		if i%2 == 0 && len(p.List) > 0 {
			x := &p.List[source.Intn(len(p.List))]
			x.Values[source.Intn(len(x.Values))] += source.Intn(5) - 2
		} else if len(p.But) > 0 {
			x := &p.But[source.Intn(len(p.But))]
			x.At[source.Intn(len(x.At))] += source.Intn(5) - 2
		}
		hold(t, p)
	}
	if may < 500 || not < 500 {
		t.Errorf("%d are texts, %d not", may, not)
	}
}

// R1, for P10.1 and P10.2: what is long ends, too.
func TestLong(t *testing.T) {
	const n = 1 << 22
	for _, part := range []string{"a", ".", "-", "1", "a-", "a1", "é", "\xff", ".a. ", "a-b\n", "1 "} {
		text := bytes.Repeat([]byte(part), n)
		if p, e := liang.Parse(text); e != api.ErrPattern || len(p.List) != 0 || len(p.But) != 0 {
			t.Errorf("%q: %d, %d, %v", part, len(p.List), len(p.But), e)
		}
	}
	text := slices.Concat(bytes.Repeat([]byte(" "), n), []byte("a1b"), bytes.Repeat([]byte("\r\n"), n))
	if p, e := liang.Parse(text); e != api.OK || !same(p, list(of("ab", 0, 1, 0))) {
		t.Errorf("%v, %v", p, e)
	}
	letters := strings.Repeat("a", n)
	for i, p := range []api.Patterns{list(flat(letters, 0)), list(of("a", make([]int, n)...)), buts(but(letters, 1)), buts(but("ab", from(1, n)...)), {List: make([]api.Pattern, n)}, {But: make([]api.Exception, n)}} {
		if text, e := liang.Write(p); liang.Check(p) || len(text) != 0 || e != api.ErrPattern {
			t.Errorf("%d: %d, %v", i, len(text), e)
		}
	}
}

// R4, for P10.1 and P10.2: lists without elements may be nil or not.
func TestNil(t *testing.T) {
	for _, p := range []api.Patterns{{}, {List: []api.Pattern{}, But: []api.Exception{}}, {List: make([]api.Pattern, 0, 9)}, {But: make([]api.Exception, 0, 9)}} {
		if !hold(t, p) {
			t.Errorf("%v may not be", p)
		}
	}
	for _, p := range []api.Patterns{list(api.Pattern{}), list(api.Pattern{Letters: "a", Values: []int{}}), list(api.Pattern{Values: []int{0}}), list(api.Pattern{Values: []int{0, 0}}), buts(api.Exception{}), buts(api.Exception{Word: "ab", At: []int{}}), buts(api.Exception{At: []int{1}})} {
		if hold(t, p) {
			t.Errorf("%v may be", p)
		}
	}
}

// roomy are patterns with spare room behind all lists, in which there is what may not be.
func roomy(p api.Patterns) api.Patterns {
	q := copied(p)
	for i, x := range q.List {
		q.List[i].Values = append(slices.Clone(x.Values), -1, 10)[:len(x.Values)]
	}
	for i, x := range q.But {
		q.But[i].At = append(slices.Clone(x.At), 0, 99)[:len(x.At)]
	}
	q.List = append(q.List, of("A", 1), of("", -1))[:len(q.List)]
	q.But = append(q.But, but("A", 0), but("", -1))[:len(q.But)]
	return q
}

// whole are patterns, and all that stands in the spare room of their lists, in memory of their own.
func whole(p api.Patterns) api.Patterns {
	q := api.Patterns{List: slices.Clone(p.List[:cap(p.List)]), But: slices.Clone(p.But[:cap(p.But)])}
	for i, x := range q.List {
		q.List[i].Values = slices.Clone(x.Values[:cap(x.Values)])
	}
	for i, x := range q.But {
		q.But[i].At = slices.Clone(x.At[:cap(x.At)])
	}
	return q
}

// R4, for P10.1 and P10.2: what is handed in stays as it is, its spare room too, and that counts for nothing.
func TestHandedInStays(t *testing.T) {
	all := append(some(200), numbered(5, 5), list(of("a", 0)), buts(but("ab", 2)))
	for i, p := range all {
		q := roomy(p)
		was := whole(q)
		if hold(t, q) != mayBe(p) || !same(whole(q), was) {
			t.Errorf("%d: %v", i, p)
		}
		words, _ := written(p)
		for _, text := range []string{words, words + " 12", " \n", ""} {
			b := append([]byte(text), " -- A"...)[:len(text)]
			x, e := liang.Parse(b)
			want, y := parsed(text)
			if !same(x, want) || e != y || string(b[:len(text)+5]) != text+" -- A" {
				t.Errorf("%q: %v, %v, %q", text, x, e, b[:len(text)+5])
			}
		}
	}
}

// numbers are all lists of numbers of patterns, their spare room, too.
func numbers(p api.Patterns) [][]int {
	var l [][]int
	for _, x := range p.List {
		l = append(l, x.Values[:cap(x.Values)])
	}
	for _, x := range p.But {
		l = append(l, x.At[:cap(x.At)])
	}
	return l
}

// wipe sets all lists of patterns, and their spare room, to other things.
func wipe(p api.Patterns) {
	for _, l := range numbers(p) {
		for i := range l {
			l[i] ^= 1 << 40
		}
	}
	clear(p.List[:cap(p.List)])
	clear(p.But[:cap(p.But)])
}

// R4, for P10.1 and P10.2: a change of an answer, or of its spare room, changes neither what was handed in nor another answer; a change of what was handed in changes no answer.
func TestMemory(t *testing.T) {
	for i, p := range append(some(200), numbered(9, 9), numbered(150, 150)) {
		q := roomy(p)
		a, _ := liang.Write(q)
		b, _ := liang.Write(q)
		want := string(a)
		x, _ := liang.Parse(a)
		y, _ := liang.Parse(a)
		clear(b[:cap(b)])
		wipe(y)
		if string(a) != want || !same(q, p) || !same(x, p) {
			t.Errorf("%d: a change of an answer changes more", i)
		}
		wipe(q)
		c := bytes.Clone(a)
		clear(a[:cap(a)])
		if string(c) != want || !same(x, p) {
			t.Errorf("%d: a change of what was handed in changes an answer", i)
		}
	}
}

// R4, for P10.2: no two lists of one answer share memory, spare room neither.
func TestListsOfOneAnswer(t *testing.T) {
	for _, p := range append(some(60), numbered(9, 9)) {
		text, _ := written(p)
		x, _ := liang.Parse([]byte(text))
		l := numbers(x)
		for i := range l {
			for k := range l[i] {
				l[i][k] = 1000 + i
			}
		}
		for i := range l {
			if slices.ContainsFunc(l[i], func(n int) bool { return n != 1000+i }) {
				t.Errorf("%q: list %d", text, i)
			}
		}
	}
}

// R5, for P10.1 and P10.2: answers hang on what is handed in alone, not on what was asked ahead of it, or is asked at once.
func TestAtOnce(t *testing.T) {
	l := append(some(60), numbered(300, 0), numbered(0, 301), list(of("a", 0)), api.Patterns{})
	var all sync.WaitGroup
	for n := range 8 {
		all.Go(func() {
			for i := range len(l) {
				p := l[(i*(2*n+1)+n)%len(l)]
				text, _ := written(p)
				hold(t, p)
				holdText(t, text)
				holdText(t, text+"12")
			}
		})
	}
	all.Wait()
}
