package hyph_test

import (
	"math"
	"math/rand"
	"slices"
	"strings"
	"sync"
	"testing"

	"compositor/api"
	"compositor/hyph"
	"compositor/liang"
	"compositor/trie"
)

// made is the trie of patterns that may be.
func made(t *testing.T, l ...api.Pattern) *trie.Trie {
	t.Helper()
	x, e := trie.New(api.Patterns{List: l})
	if x == nil || e != api.OK {
		t.Fatalf("%v: %v", l, e)
	}
	return x
}

// odd is the trie that has odd numbers at all places.
func odd(t *testing.T) *trie.Trie {
	t.Helper()
	var l []api.Pattern
	for letter := byte('a'); letter <= 'z'; letter++ {
		l = append(l, flat(string([]byte{letter}), 1))
	}
	return made(t, l...)
}

// holdCore holds Core against the chapter's words.
func holdCore(t *testing.T, word []int) {
	t.Helper()
	wantText, wantAhead := core(word)
	if text, ahead := hyph.Core(word); text != wantText || ahead != wantAhead {
		t.Errorf("Core(%v): %q, %d, not %q, %d", word, text, ahead, wantText, wantAhead)
	}
}

// toldCore holds Core against what is written out.
func toldCore(t *testing.T, word []int, wantText string, wantAhead int) {
	t.Helper()
	if text, ahead := hyph.Core(word); text != wantText || ahead != wantAhead {
		t.Errorf("Core(%v): %q, %d, not %q, %d", word, text, ahead, wantText, wantAhead)
	}
	holdCore(t, word)
}

// hold holds Points against the chapter's words.
func hold(t *testing.T, x *trie.Trie, but []api.Exception, word []int, left, right int) {
	t.Helper()
	if l, want := hyph.Points(x, but, word, left, right), points(x, but, word, left, right); !slices.Equal(l, want) {
		t.Errorf("Points(%v, %v, %d, %d): %v, not %v", but, word, left, right, l, want)
	}
}

// told holds Points against what is written out.
func told(t *testing.T, x *trie.Trie, but []api.Exception, word []int, left, right int, want ...int) {
	t.Helper()
	if l := hyph.Points(x, but, word, left, right); !slices.Equal(l, want) {
		t.Errorf("Points(%v, %v, %d, %d): %v, not %v", but, word, left, right, l, want)
	}
	hold(t, x, but, word, left, right)
}

// P12.1, P12.2: the chapter's example.
func TestExample(t *testing.T) {
	p, e := liang.Parse([]byte("a1b"))
	if e != api.OK {
		t.Fatal(e)
	}
	toldCore(t, codes("(aab)"), "aab", 1)
	told(t, made(t, p.List...), p.But, codes("(aab)"), 1, 1, 3)
}

// P12.1: words of no codes, of no letter, and with codes ahead, behind, both, and in the middle.
func TestCore(t *testing.T) {
	toldCore(t, nil, "", 0)
	toldCore(t, []int{}, "", 0)
	for _, x := range []struct {
		word, text string
		ahead      int
	}{
		{"a", "a", 0}, {"z", "z", 0}, {"A", "a", 0}, {"Z", "z", 0}, {"m", "m", 0}, {"M", "m", 0},
		{"-", "", 0}, {"--", "", 0}, {"(-)", "", 0}, {"1234567", "", 0}, {"@", "", 0}, {"[", "", 0}, {"`", "", 0}, {"{", "", 0}, {"@[`{", "", 0},
		{"(a", "a", 1}, {"a)", "a", 0}, {"(a)", "a", 1}, {"((a", "a", 2}, {"a))", "a", 0}, {"((a)))", "a", 2}, {"((((ab)", "ab", 4},
		{"a-b", "", 0}, {"a-", "a", 0}, {"-a", "a", 1}, {"-a-b", "", 0}, {"a-b-", "", 0}, {"-a-b-", "", 0}, {"a--b", "", 0}, {"ab1cd", "", 0}, {"a.b.c", "", 0}, {"ab-c", "", 0}, {"a-bc", "", 0}, {"don't", "", 0}, {"'tis", "tis", 1},
		{"a@b", "", 0}, {"a[b", "", 0}, {"a`b", "", 0}, {"a{b", "", 0}, {"@a[", "a", 1}, {"`a{", "a", 1}, {"[a@", "a", 1}, {"{a`", "a", 1}, {"@Z[", "z", 1}, {"`z{", "z", 1},
		{"table", "table", 0}, {"TABLE", "table", 0}, {"Table", "table", 0}, {"tABLE", "table", 0}, {"TaBlE", "table", 0}, {"(\"Table,\")", "table", 2},
		{"ABCDEFGHIJKLMNOPQRSTUVWXYZ", "abcdefghijklmnopqrstuvwxyz", 0}, {"abcdefghijklmnopqrstuvwxyz", "abcdefghijklmnopqrstuvwxyz", 0},
		{"\x00a\x00", "a", 1}, {"\x7fa\x80", "a", 1}, {"a\x00b", "", 0}, {"a\xe1b", "", 0}, {"\xe1a\xc1", "a", 1}, {" a ", "a", 1}, {"a b", "", 0},
	} {
		toldCore(t, codes(x.word), x.text, x.ahead)
	}
}

// P12.1: each code alone, ahead of letters, behind them, beside both, and in the middle of them.
func TestCodes(t *testing.T) {
	all := append(noLetters(), codes(alphabet)...)
	if len(all) < 700 {
		t.Fatal(len(all))
	}
	for _, code := range all {
		for _, word := range [][]int{{code}, {code, code}, {code, code, code}, {code, 'a'}, {'a', code}, {'a', code, 'b'}, {code, 'a', code}, {code, code, 'a', 'B', code, code}, {'-', code, '-'}, {'-', code, 'a'}, {'a', code, '-'}, {'a', '-', code}, {code, '-', 'a'}, {code, 'a', code, 'a', code}, {'Z', code, code, 'z'}} {
			holdCore(t, word)
		}
	}
	for _, code := range noLetters() {
		toldCore(t, []int{code}, "", 0)
		toldCore(t, []int{code, code}, "", 0)
		toldCore(t, []int{code, 'a', code}, "a", 1)
		toldCore(t, []int{code, code, 'a', 'Z'}, "az", 2)
		toldCore(t, []int{'A', 'z', code, code}, "az", 0)
		toldCore(t, []int{'a', code, 'a'}, "", 0)
		toldCore(t, []int{code, 'a', code, 'a', code}, "", 0)
		told(t, odd(t), nil, []int{code, 'a', 'b', code}, 0, 0, 2)
		told(t, odd(t), nil, []int{'a', code, 'b'}, 0, 0)
		told(t, odd(t), []api.Exception{but("ab", 1), but("", 1)}, []int{'a', code, 'b'}, 0, 0)
	}
	for i := range len(alphabet) {
		small := "abcdefghijklmnopqrstuvwxyz"[i%26 : i%26+1]
		code := int(alphabet[i])
		toldCore(t, []int{code}, small, 0)
		toldCore(t, []int{code, '-'}, small, 0)
		toldCore(t, []int{'-', code}, small, 1)
		toldCore(t, []int{'-', '-', code, code, '-'}, small+small, 2)
	}
}

// P12.1, P12.2: words of so many letters, with codes beside them and without.
func TestLengths(t *testing.T) {
	x := odd(t)
	for n := range 90 {
		text := (az + az + az)[:n]
		want := text
		if n > api.MaxWord {
			want = ""
		}
		for _, ahead := range []int{0, 1, 2, 39, 40, 41, 1000} {
			for _, behind := range []int{0, 1, 40, 41, 1000} {
				count := ahead
				if want == "" {
					count = 0
				}
				for _, letters := range []string{text, strings.ToUpper(text)} {
					word := around(slices.Repeat([]int{'('}, ahead), letters, slices.Repeat([]int{')'}, behind)...)
					toldCore(t, word, want, count)
					told(t, x, nil, word, 1, 1, upTo(count+1, count+len(want)-1)...)
					told(t, x, []api.Exception{but(text, 0, n)}, word, 0, 0, slices.Repeat([]int{count, count + len(want)}, min(1, len(want)))...)
				}
			}
		}
	}
	for _, n := range []int{2, 39, 40} {
		for at := range n {
			word := codes(az[:n])
			word[at] = 'a' + 256
			switch at {
			case 0:
				toldCore(t, word, az[1:n], 1)
			case n - 1:
				toldCore(t, word, az[:n-1], 0)
			default:
				toldCore(t, word, "", 0)
			}
			if at > 0 {
				toldCore(t, around(codes(az[:at]), "-"+az[at:n]), "", 0)
			}
		}
	}
}

// R1, for P12.1, P12.2: words that are long end, too.
func TestLong(t *testing.T) {
	x := odd(t)
	const many = 1 << 19
	others := slices.Repeat([]int{'-', math.MinInt, 0, 'a' + 256}, many/4)
	letters := slices.Repeat([]int{'a', 'B'}, many/2)
	for _, c := range []struct {
		word  []int
		text  string
		ahead int
	}{
		{others, "", 0}, {letters, "", 0},
		{around(others, "aB"), "ab", many}, {around(nil, "aB", others...), "ab", 0}, {around(others, "aB", others...), "ab", many}, {around(others, az, others...), az, many},
		{around(others, az+"a", others...), "", 0}, {around(letters, "-"), "", 0}, {around([]int{'-'}, "", letters...), "", 0}, {around([]int{'a'}, "", append(slices.Clone(others), 'a')...), "", 0}, {around(others, "", letters...), "", 0}, {around(letters, "", others...), "", 0},
	} {
		if text, ahead := hyph.Core(c.word); text != c.text || ahead != c.ahead {
			t.Errorf("%d codes: %q, %d, not %q, %d", len(c.word), text, ahead, c.text, c.ahead)
		}
		want := upTo(c.ahead+1, c.ahead+len(c.text)-1)
		if l := hyph.Points(x, nil, c.word, 1, 1); !slices.Equal(l, want) {
			t.Errorf("%d codes: %v, not %v", len(c.word), l, want)
		}
	}
	buts := append(slices.Repeat([]api.Exception{but("abc", 1)}, many/8), but("ab", 1, 1), but("ab"))
	told(t, x, buts, codes("(AB)"), 1, 1, 2, 2)
	buts = []api.Exception{but("ab", slices.Repeat([]int{1, 2, -1, math.MinInt}, many/4)...)}
	if l := hyph.Points(x, buts, codes("-ab"), 1, 1); len(l) != many/4 || l[0] != 2 || l[len(l)-1] != 2 {
		t.Errorf("%d points", len(l))
	}
}

// P12.1, P12.2: all words of up to five codes of a few.
func TestAllShortWords(t *testing.T) {
	x := made(t, of("ab", 3, 1, 3), of(".b", 0, 1, 4), of("aa", 1, 2, 0), of("b.", 0, 0, 5))
	buts := []api.Exception{but("aba", 1, 2), but("bb"), but("aab", 3, 0), but("bb", 1), but("-", 1), but("AB", 1), but("", 0)}
	words, from := [][]int{nil}, [][]int{nil}
	for range 5 {
		var longer [][]int
		for _, word := range from {
			for _, code := range codes("aAbB-@{") {
				longer = append(longer, append(slices.Clone(word), code))
			}
		}
		words, from = append(words, longer...), longer
	}
	for _, word := range words {
		holdCore(t, word)
		hold(t, x, buts, word, 0, 0)
		hold(t, x, buts, word, 1, 1)
	}
}

// P12.2: words without a core have no points, whatever there is of exceptions and of patterns.
func TestNoCore(t *testing.T) {
	x := odd(t)
	for _, word := range [][]int{nil, {}, codes("-"), codes("--"), codes("a-b"), codes("-a-b-"), codes("@[`{"), codes(az + "a"), codes(strings.Repeat("a", 100)), codes("1"), {0}, {math.MinInt}, {math.MaxInt}, {'a' + 256}, {'a', 'b' + 1<<32, 'a'}} {
		text := make([]byte, len(word))
		for i, code := range word {
			text[i] = byte(code)
		}
		for _, buts := range [][]api.Exception{nil, {but("", 0, 1)}, {but(string(text), 0, 1, 2)}, {but("", 0), but("a", 0), but("ab", 0, 1), but(az+"a", 1)}} {
			for _, n := range []int{math.MinInt, -1, 0, 1, math.MaxInt} {
				told(t, x, buts, word, n, n)
				told(t, x, buts, word, n, 0)
				told(t, x, buts, word, 0, n)
			}
		}
	}
}

// P12.2: numbers that are even, and odd, at each place, the first and the last one too, where no word is parted.
func TestNumbers(t *testing.T) {
	for v := range 10 {
		for _, letters := range []string{"a", "ab", "abc", "abcdefg", az} {
			n := len(letters)
			var inside []int
			for at := range n + 1 {
				p := flat(letters, 0)
				p.Values[at] = v
				word := codes(letters)
				if v%2 == 1 && at > 0 && at < n {
					told(t, made(t, p), nil, word, 1, 1, at)
					told(t, made(t, p), nil, word, 0, 0, at)
					told(t, made(t, p), nil, word, -5, -5, at)
					told(t, made(t, p), nil, around([]int{'('}, letters, ')'), math.MinInt, math.MinInt, at+1)
					inside = append(inside, at)
				} else {
					told(t, made(t, p), nil, word, 1, 1)
					told(t, made(t, p), nil, word, 0, 0)
					told(t, made(t, p), nil, word, -5, -5)
					told(t, made(t, p), nil, around([]int{'('}, letters, ')'), math.MinInt, math.MinInt)
				}
				p = flat(letters, 9-v)
				p.Values[at] = v
				hold(t, made(t, p), nil, word, 0, 0)
			}
			told(t, made(t, flat(letters, v)), nil, codes(letters), 0, 0, inside...)
		}
	}
	told(t, made(t, of("ab", 0, 1, 0), of("b", 2, 0)), nil, codes("ab"), 1, 1)
	told(t, made(t, of("ab", 0, 1, 0), of("b", 3, 0)), nil, codes("ab"), 1, 1, 1)
	told(t, made(t, of("ab", 0, 9, 0), of("b", 8, 0)), nil, codes("ab"), 1, 1, 1)
	told(t, made(t), nil, codes("ab"), 1, 1)
	told(t, made(t), nil, codes(az), 0, 0)
}

// P12.2: a word's points by patterns that hold of its beginning and its end: these are the core's.
func TestCoresEnds(t *testing.T) {
	x := made(t, of(".ab", 0, 0, 1, 0), of("ba.", 0, 1, 0, 0), of(".aba.", 0, 0, 3, 3, 0, 0))
	for _, c := range []struct {
		word string
		want []int
	}{
		{"abx", []int{1}}, {"(abx", []int{2}}, {"((abx))", []int{3}}, {"ABX", []int{1}}, {"xab", nil}, {"-xab", nil},
		{"xba", []int{2}}, {"xba.", []int{2}}, {"(xBa.", []int{3}}, {"bax", nil}, {"bax-", nil},
		{"aba", []int{1, 2}}, {"'Aba'", []int{2, 3}}, {"xabax", nil}, {"xaba", []int{3}}, {".xaba.", []int{4}},
	} {
		told(t, x, nil, codes(c.word), 1, 1, c.want...)
	}
}

// P12.2: which exceptions hold of a word.
func TestExceptions(t *testing.T) {
	x := made(t, of("bl", 0, 1, 0), of("ta", 0, 5, 0))
	for _, c := range []struct {
		buts []api.Exception
		want []int
	}{
		{nil, []int{1, 3}},
		{[]api.Exception{}, []int{1, 3}},
		{[]api.Exception{but("table", 2)}, []int{2}},
		{[]api.Exception{but("table", 2, 4)}, []int{2, 4}},
		{[]api.Exception{but("table", 1, 3)}, []int{1, 3}},
		{[]api.Exception{but("table")}, nil},
		{[]api.Exception{but("table"), but("table", 2)}, nil},
		{[]api.Exception{but("table", 2), but("table", 1)}, []int{2}},
		{[]api.Exception{but("table", 1), but("table", 2)}, []int{1}},
		{[]api.Exception{but("table", 4), but("table"), but("table", 2)}, []int{4}},
		{[]api.Exception{but("tabl", 2), but("table", 4), but("table", 2)}, []int{4}},
		{[]api.Exception{but("tabl", 2), but("tables", 4), but("ables", 1), but("able", 3)}, []int{1, 3}},
		{[]api.Exception{but("t", 1), but("tab", 2), but("tabletable", 2)}, []int{1, 3}},
		{[]api.Exception{but("tabel", 2), but("tablf", 2), but("sable", 2), but("elbat", 2)}, []int{1, 3}},
		{[]api.Exception{but("", 2), but("table ", 2), but(" table", 2), but("table\x00", 2), but("(table)", 2), but(".table.", 2)}, []int{1, 3}},
		{[]api.Exception{but("TABLE", 2), but("Table", 2), but("tablE", 2)}, []int{1, 3}},
		{[]api.Exception{but("TABLE", 2), but("tables", 2), but("table", 4)}, []int{4}},
	} {
		for _, word := range []string{"table", "TABLE", "Table", "tABLe"} {
			told(t, x, c.buts, codes(word), 1, 1, c.want...)
			var behind []int
			for _, at := range c.want {
				behind = append(behind, at+3)
			}
			told(t, x, c.buts, around([]int{'"', 0, math.MinInt}, word, math.MaxInt, '-'), 1, 1, behind...)
		}
	}
	told(t, x, []api.Exception{but("table", 2)}, codes("tables"), 1, 1, 1, 3)
	told(t, x, []api.Exception{but("table", 2)}, codes("tabl"), 1, 1, 1, 3)
	told(t, x, []api.Exception{but("table", 2)}, codes("table-"), 1, 1, 2)
	told(t, x, []api.Exception{but("a", 0, 1)}, codes("a"), 0, 0, 0, 1)
	told(t, x, []api.Exception{but(az, 1, 20, 39)}, codes(az), 1, 1, 1, 20, 39)
	told(t, x, []api.Exception{but(az+"a", 1)}, codes(az+"a"), 1, 1)
}

// P12.2: hand-made exceptions, with places that may be any numbers.
func TestHandMade(t *testing.T) {
	x := odd(t)
	word := codes("((table)")
	at := func(places ...int) []api.Exception { return []api.Exception{but("table", places...)} }
	told(t, x, at(4, 2, 3, 1), word, 1, 1, 6, 4, 5, 3)
	told(t, x, at(2, 2, 4, 2), word, 1, 1, 4, 4, 6, 4)
	told(t, x, at(0, 1, 5), word, 1, 1, 3)
	told(t, x, at(0, 1, 5), word, 0, 0, 2, 3, 7)
	told(t, x, at(0, 1, 5), word, 0, 1, 2, 3)
	told(t, x, at(0, 1, 5), word, 1, 0, 3, 7)
	told(t, x, at(5, 6, 7, 8, 40, 41), word, 0, -99, 7)
	told(t, x, at(-1, -2, -3, -4, 0), word, 0, 0, 2)
	told(t, x, at(-1, -2, -3, -4, 0), word, -3, 0, 1, 0, -1, 2)
	told(t, x, at(-1, -2, -3, -4, 0), word, -3, 7, 0, -1)
	told(t, x, at(6, math.MaxInt, math.MaxInt-1, 1<<32+1), word, math.MinInt, math.MinInt)
	told(t, x, at(math.MinInt, math.MaxInt), word, 0, 0)
	told(t, x, at(math.MinInt, 1, math.MaxInt), word, 1, 1, 3)
	told(t, x, at(math.MinInt, math.MinInt+5, math.MinInt+6), word, math.MinInt, 0, math.MinInt+8)
	told(t, x, at(math.MinInt, math.MinInt+5, math.MinInt+6), word, math.MinInt, math.MinInt, math.MinInt+2, math.MinInt+7, math.MinInt+8)
	told(t, x, at(math.MinInt, math.MinInt+5, math.MinInt+6), word, math.MinInt, math.MinInt+1, math.MinInt+2, math.MinInt+8)
	told(t, x, at(math.MinInt, math.MinInt+5, math.MinInt+6), word, math.MinInt, math.MinInt+5, math.MinInt+2, math.MinInt+8)
	told(t, x, at(math.MinInt, math.MinInt+5, math.MinInt+6), word, math.MinInt, math.MinInt+6, math.MinInt+8)
	told(t, x, at(math.MinInt, math.MinInt+5, math.MinInt+6), word, math.MinInt, math.MaxInt, math.MinInt+8)
	told(t, x, at(math.MinInt+7), word, math.MinInt, math.MaxInt)
	told(t, x, at(math.MinInt+7), word, math.MinInt, math.MaxInt-1, math.MinInt+9)
	for _, letters := range []string{"a", "table", az} {
		numbers := far(len(letters))
		for _, place := range numbers {
			for _, left := range numbers {
				for _, right := range numbers {
					hold(t, x, []api.Exception{but(letters, place)}, around([]int{'('}, letters, ')'), left, right)
				}
			}
		}
		for _, left := range numbers {
			for _, right := range numbers {
				hold(t, x, []api.Exception{but(letters, numbers...)}, around([]int{'('}, letters, ')'), left, right)
				hold(t, x, []api.Exception{but("b", numbers...)}, around([]int{'('}, letters, ')'), left, right)
			}
		}
	}
}

// P12.2: left and right, from below 0 to more than there are letters.
func TestLeftRight(t *testing.T) {
	x := odd(t)
	for _, n := range []int{1, 2, 3, 5, 39, 40} {
		letters := az[:n]
		buts := []api.Exception{but(letters, upTo(0, n)...)}
		for left := -2; left <= 43; left++ {
			for right := -2; right <= 43; right++ {
				told(t, x, nil, codes(letters), left, right, upTo(max(1, left), min(n-1, n-right))...)
				told(t, x, buts, around([]int{'-', '-'}, letters), left, right, upTo(2+max(0, left), 2+min(n, n-right))...)
			}
		}
		for _, most := range []int{math.MaxInt, math.MaxInt - 1, 1 << 32, 41} {
			told(t, x, nil, codes(letters), most, 0)
			told(t, x, nil, codes(letters), 0, most)
			told(t, x, nil, codes(letters), most, most)
			told(t, x, nil, codes(letters), most, math.MinInt)
			told(t, x, nil, codes(letters), math.MinInt, most)
		}
		for _, least := range []int{math.MinInt, math.MinInt + 1, -1 << 32, -41, -1, 0, 1} {
			told(t, x, nil, codes(letters), least, 0, upTo(1, n-1)...)
			told(t, x, nil, codes(letters), 0, least, upTo(1, n-1)...)
			told(t, x, nil, codes(letters), least, least, upTo(1, n-1)...)
		}
	}
	told(t, x, nil, codes("table"), 2, 3, 2)
	told(t, x, nil, codes("table"), 3, 2, 3)
	told(t, x, nil, codes("table"), 3, 3)
	told(t, x, nil, codes("(table)"), 2, 2, 3, 4)
	told(t, x, nil, codes("-----table-----"), 5, 0)
	told(t, x, nil, codes("-----table-----"), 0, 5)
	told(t, x, nil, codes("-----table-----"), 4, 0, 9)
	told(t, x, nil, codes("-----table-----"), 0, 4, 6)
}

// R1, for P12.2: without a trie there are no points, by no exception either; and a trie that came of nowhere does not panic.
func TestNil(t *testing.T) {
	for _, word := range [][]int{nil, {}, codes("a"), codes("ab"), codes("(AB)"), codes("-"), codes("table"), codes(az), codes(az + "a"), {math.MinInt, math.MaxInt}} {
		for _, buts := range [][]api.Exception{nil, {but("ab", 1)}, {but("table", 2), but("", 0), but("a", 0, 1), but(az, 1)}} {
			told(t, nil, buts, word, 1, 1)
			told(t, nil, buts, word, 0, 0)
			told(t, nil, buts, word, math.MinInt, math.MinInt)
			hold(t, &trie.Trie{}, buts, word, 0, 0)
			hold(t, new(trie.Trie), buts, word, math.MinInt, math.MaxInt)
		}
	}
	told(t, &trie.Trie{}, nil, codes("table"), 0, 0)
}

// P12.1, P12.2: words of all kinds, by patterns and exceptions of all kinds.
func TestSome(t *testing.T) {
	withPoints := 0
	for _, j := range some(6000) {
		x := made(t, j.patterns...)
		holdCore(t, j.word)
		text, _ := core(j.word)
		for _, n := range [][2]int{{0, 0}, {1, 1}, {2, 3}, {math.MinInt, math.MinInt}, {-1, 2}, {2, -1}, {len(text), 0}, {0, len(text)}, {len(text) - 1, 1}, {math.MinInt, 0}, {math.MinInt, math.MaxInt - 2}} {
			hold(t, x, j.but, j.word, n[0], n[1])
			hold(t, x, nil, j.word, n[0], n[1])
		}
		if len(hyph.Points(x, j.but, j.word, 1, 1)) > 0 {
			withPoints++
		}
	}
	if withPoints < 1000 || withPoints > 5000 {
		t.Errorf("%d have points", withPoints)
	}
}

// P12.3: points rise where At does, and are in the core.
func TestRise(t *testing.T) {
	for _, j := range some(3000) {
		x := made(t, j.patterns...)
		text, ahead := hyph.Core(j.word)
		for i := range j.but {
			slices.Sort(j.but[i].At)
			j.but[i].At = slices.Compact(j.but[i].At)
		}
		for _, left := range []int{math.MinInt, 0, 1, 2} {
			for _, right := range []int{math.MinInt, 0, 1, 2} {
				l := hyph.Points(x, j.but, j.word, left, right)
				for i, point := range l {
					if i > 0 && l[i-1] >= point {
						t.Errorf("%v: %v", j, l)
					}
					if left >= 0 && (point < ahead+left || point > ahead+len(text)-max(0, right)) {
						t.Errorf("%v: %v", j, l)
					}
				}
				for _, point := range hyph.Points(x, nil, j.word, left, right) {
					if point <= ahead || point >= ahead+len(text) {
						t.Errorf("%v: %d", j, point)
					}
				}
			}
		}
	}
}

// P12.3: a greater left, and a greater right, have no more points, and none that the lesser one does not have.
func TestGreater(t *testing.T) {
	for i, j := range some(600) {
		x := made(t, j.patterns...)
		text, ahead := hyph.Core(j.word)
		numbers := far(len(text))
		for k := 1; k < len(numbers); k++ {
			less, more, other := numbers[k-1], numbers[k], numbers[(k+i)%len(numbers)]
			l := hyph.Points(x, j.but, j.word, less, other)
			if want := slices.DeleteFunc(slices.Clone(l), func(point int) bool { return point-ahead < more }); !slices.Equal(hyph.Points(x, j.but, j.word, more, other), want) {
				t.Errorf("%v: left %d and %d, right %d", j, less, more, other)
			}
			l = hyph.Points(x, j.but, j.word, other, less)
			k := hyph.Points(x, j.but, j.word, other, more)
			if len(k) > len(l) {
				t.Errorf("%v: left %d, right %d and %d: %v, %v", j, other, less, more, l, k)
			}
			for _, point := range k {
				at := slices.Index(l, point)
				if at < 0 {
					t.Errorf("%v: left %d, right %d and %d: %v, %v", j, other, less, more, l, k)
					break
				}
				l = l[at+1:]
			}
		}
	}
}

// P12.3: great letters are as small ones.
func TestGreatLetters(t *testing.T) {
	source := rand.New(rand.NewSource(1203))
	for _, j := range some(1500) {
		x := made(t, j.patterns...)
		text, ahead := hyph.Core(j.word)
		other := slices.Clone(j.word)
		for range 3 {
			for i, code := range other {
				if code == int(byte(code)) && strings.IndexByte(alphabet, byte(code)) >= 0 && source.Intn(3) > 0 {
					other[i] = code ^ 32
				}
			}
			if otherText, n := hyph.Core(other); otherText != text || n != ahead {
				t.Errorf("%v, %v: %q, %d, %q, %d", j.word, other, text, ahead, otherText, n)
			}
			if l, k := hyph.Points(x, j.but, j.word, 1, 1), hyph.Points(x, j.but, other, 1, 1); !slices.Equal(l, k) {
				t.Errorf("%v, %v: %v, %v", j.word, other, l, k)
			}
		}
	}
}

// P12.3: a code more ahead of a word that has a core is a place more in all points; one more behind it is nothing.
func TestMoreBeside(t *testing.T) {
	others := noLetters()
	for i, j := range some(1500) {
		x := made(t, j.patterns...)
		text, ahead := hyph.Core(j.word)
		if text == "" {
			continue
		}
		code := others[i%len(others)]
		toldCore(t, append([]int{code}, j.word...), text, ahead+1)
		toldCore(t, append(slices.Clone(j.word), code), text, ahead)
		l := hyph.Points(x, j.but, j.word, 1, 1)
		told(t, x, j.but, append(slices.Clone(j.word), code), 1, 1, l...)
		for k := range l {
			l[k]++
		}
		told(t, x, j.but, append([]int{code}, j.word...), 1, 1, l...)
	}
}

// P12.2: one trie is asked for many words, in any order: each answer is the one that a new trie gives.
func TestAskedAgain(t *testing.T) {
	source := rand.New(rand.NewSource(1204))
	all := some(60)
	for _, j := range all {
		x := made(t, j.patterns...)
		for range 120 {
			other := all[source.Intn(len(all))]
			left, right := source.Intn(4)-1, source.Intn(4)-1
			l := hyph.Points(x, other.but, other.word, left, right)
			if k := hyph.Points(made(t, j.patterns...), other.but, other.word, left, right); !slices.Equal(l, k) {
				t.Errorf("%v, %v: %v, %v", j, other, l, k)
			}
			hold(t, x, other.but, other.word, left, right)
		}
	}
}

// R5, for P12.1, P12.2: several goroutines that ask at once, of one trie, one word and one list of exceptions, the first ones among them, are all told what one is told.
func TestAtOnce(t *testing.T) {
	all := some(50)
	for i, j := range all {
		x := made(t, j.patterns...)
		var wait sync.WaitGroup
		begin := make(chan struct{})
		for n := range 8 {
			wait.Go(func() {
				<-begin
				hold(t, x, j.but, j.word, n-2, 1)
				for k := range all {
					other := all[(k*(2*n+1)+n+i)%len(all)]
					holdCore(t, other.word)
					hold(t, x, other.but, other.word, n-2, 1)
				}
				hold(t, x, j.but, j.word, 0, 0)
			})
		}
		close(begin)
		wait.Wait()
	}
}

// R4, for P12.1, P12.2: what is handed in stays as it is, its spare room too, which counts for nothing; later changes of all of that change no answer.
func TestHandedIn(t *testing.T) {
	for i, j := range append(some(1500), job{[]api.Pattern{flat("a", 1)}, []api.Exception{but("aa", 1), but("aa", 0)}, codes("(AA)")}) {
		x := made(t, j.patterns...)
		q := copied(j)
		room := []int{'a', 'b', 1, 0}
		q.word = append(q.word, room...)[:len(j.word)]
		for k := range q.but {
			q.but[k].At = append(q.but[k].At, room...)[:len(j.but[k].At)]
		}
		text, _ := core(j.word)
		q.but = append(q.but, but(text, room...), but("a", room...))[:len(j.but)]
		for _, n := range [][2]int{{0, 0}, {1, 1}, {math.MinInt, math.MinInt}} {
			core, ahead := hyph.Core(q.word)
			l := hyph.Points(x, q.but, q.word, n[0], n[1])
			if !slices.Equal(q.word, j.word) || !sameBut(q.but, j.but) || !slices.Equal(q.word[:cap(q.word)][len(q.word):][:4], room) {
				t.Fatalf("%d: %v is %v", i, j, q)
			}
			spare := q.but[:cap(q.but)][len(q.but):][:2]
			if !sameBut(spare, []api.Exception{but(text, room...), but("a", room...)}) {
				t.Fatalf("%d: %v", i, spare)
			}
			for _, y := range q.but {
				if !slices.Equal(y.At[:cap(y.At)][len(y.At):][:4], room) {
					t.Fatalf("%d: %v", i, y)
				}
			}
			want := points(x, j.but, j.word, n[0], n[1])
			spoiled := copied(q)
			spoil(q)
			if wantText, wantAhead := hyph.Core(j.word); core != wantText || ahead != wantAhead || !slices.Equal(l, want) {
				t.Errorf("%d: %q, %d, %v, not %v", i, core, ahead, l, want)
			}
			restore(q, spoiled, room)
		}
	}
}

// spoil sets all lists of a job, and their spare room, to other things.
func spoil(j job) {
	for i := range j.word[:cap(j.word)] {
		j.word[:cap(j.word)][i] = 'x'
	}
	for _, x := range j.but {
		for i := range x.At[:cap(x.At)] {
			x.At[:cap(x.At)][i] = 77
		}
	}
	clear(j.but[:cap(j.but)])
}

// restore sets a job that was spoiled to what it was, with room behind each list.
func restore(j, was job, room []int) {
	copy(j.word, was.word)
	copy(j.word[:cap(j.word)][len(j.word):], room)
	for i, x := range was.but {
		j.but[i] = but(x.Word, append(slices.Clone(x.At), room...)[:len(x.At)]...)
	}
	text, _ := core(j.word)
	copy(j.but[:cap(j.but)][len(j.but):], []api.Exception{but(text, room...), but("a", room...)})
}

// R4, for P12.2: changes of an answer, and of its spare room, change no later one, none ahead of it, and nothing that is handed in.
func TestAnswers(t *testing.T) {
	for _, j := range append(some(1500), job{[]api.Pattern{flat("a", 1)}, nil, codes("aaaa")}, job{nil, []api.Exception{but("aaaa", 1, 2, 3)}, codes("aaaa")}) {
		x := made(t, j.patterns...)
		was := copied(j)
		for _, n := range [][2]int{{0, 0}, {1, 1}, {math.MinInt, math.MinInt}} {
			before := hyph.Points(x, j.but, j.word, n[0], n[1])
			l := hyph.Points(x, j.but, j.word, n[0], n[1])
			l = l[:cap(l)]
			for i := range l {
				l[i] = 77
			}
			if !slices.Equal(before, points(x, was.but, was.word, n[0], n[1])) {
				t.Errorf("%v: %v", was, before)
			}
			hold(t, x, was.but, was.word, n[0], n[1])
			if !slices.Equal(j.word, was.word) || !sameBut(j.but, was.but) {
				t.Errorf("%v is %v", was, j)
			}
			hold(t, x, j.but, j.word, n[0], n[1])
		}
	}
}
