package trie_test

import (
	"math"
	"math/rand"
	"slices"
	"strings"
	"sync"
	"testing"

	"compositor/api"
	"compositor/liang"
	"compositor/trie"
)

// made is the trie of patterns that may be.
func made(t *testing.T, p api.Patterns) *trie.Trie {
	t.Helper()
	x, e := trie.New(p)
	if x == nil || e != api.OK {
		t.Fatalf("New(%v): %v, %v", p, x, e)
	}
	return x
}

// holdWord holds Values of a word against the chapter's words.
func holdWord(t *testing.T, x *trie.Trie, p api.Patterns, word string) {
	t.Helper()
	if l, want := x.Values(word), numbers(p, word); !slices.Equal(l, want) {
		t.Errorf("%v: Values(%q): %v, not %v", p, word, l, want)
	}
}

// holdNodes holds Nodes against the chapter's words.
func holdNodes(t *testing.T, x *trie.Trie, p api.Patterns) {
	t.Helper()
	if n, want := x.Nodes(), nodes(p); n != want {
		t.Errorf("%v: %d nodes, not %d", p, n, want)
	}
}

// hold holds New of patterns that may be, and all that their trie tells, of words that are near to them, of these ones, and of such as may not be, against the chapter's words.
func hold(t *testing.T, p api.Patterns, words ...string) {
	t.Helper()
	x := made(t, p)
	holdNodes(t, x, p)
	for _, word := range slices.Concat(wordsOf(p), words, []string{"", "A", "a.", strings.Repeat("a", 41)}) {
		holdWord(t, x, p, word)
	}
}

// told holds Values of one word against numbers that are written out.
func told(t *testing.T, p api.Patterns, word string, want ...int) {
	t.Helper()
	if l := made(t, p).Values(word); !slices.Equal(l, want) {
		t.Errorf("%v: Values(%q): %v, not %v", p, word, l, want)
	}
	hold(t, p, word)
}

// P11.1, P11.2: the chapter's example.
func TestExample(t *testing.T) {
	p, e := liang.Parse([]byte("a1b .a2"))
	if e != api.OK {
		t.Fatal(e)
	}
	told(t, p, "ab", 0, 2, 0)
	if n := made(t, p).Nodes(); n != 5 {
		t.Errorf("%d nodes", n)
	}
}

// P11.1: patterns that may not be, of each kind that layer 10 names, have no trie, whatever stands beside them.
func TestNoTrie(t *testing.T) {
	good := []api.Pattern{of("ab", 0, 1, 0), of(".a", 0, 0, 2)}
	var bad []api.Patterns
	for _, x := range []api.Pattern{
		{}, {Letters: "a"}, {Values: []int{0}}, {Values: []int{0, 0}},
		of("a", 0), of("a", 0, 0, 0), of("ab", 0, 1), of("ab", 0, 1, 0, 0), of(".a.", 0, 1),
		of("a", -1, 0), of("a", 0, -1), of("a", 10, 0), of("a", 0, 10), of("ab", 0, 10, 0), of("ab", 0, math.MinInt, 0), of("ab", 0, math.MaxInt, 0),
		flat(".", 0), flat("..", 0), flat("..a", 0), flat("a..", 0), flat("a.b", 0), flat(".a.b.", 0), flat("", 0),
		flat("A", 0), flat("aB", 0), flat("a-b", 0), flat("a1", 0), flat("a b", 0), flat("a\n", 0), flat("`", 0), flat("{", 0), flat("é", 0), flat("a\xff", 0), flat("\x00", 0),
		flat(az+"a", 0), flat("."+az+"a.", 0), flat(strings.Repeat("a", 41), 1), flat(strings.Repeat("a", 4000), 1),
	} {
		bad = append(bad, list(x), list(good[0], x, good[1]), list(x, good[0]), list(good[0], good[1], x), api.Patterns{List: []api.Pattern{x}, But: []api.Exception{but("ab", 1)}})
	}
	for _, x := range []api.Exception{{}, but("ab"), but("", 1), but("", 0), but("a", 1), but("a", 0), but("ab", 0), but("ab", 2), but("ab", -1), but("abc", 2, 1), but("abc", 1, 1), but("aB", 1), but("a-b", 1), but(".ab", 1), but("ab.", 1), but("aé", 1), but(az+"a", 1)} {
		bad = append(bad, api.Patterns{But: []api.Exception{x}}, api.Patterns{List: good, But: []api.Exception{x}}, api.Patterns{List: good, But: []api.Exception{but("ab", 1), x, but("abc", 1)}})
	}
	buts := slices.Repeat([]api.Exception{but("ab", 1)}, 302)
	bad = append(bad, many(301), many(600), list(slices.Repeat([]api.Pattern{of("a", 0, 1)}, 301)...), api.Patterns{But: buts[:301]}, api.Patterns{List: many(300).List, But: buts[:1]}, api.Patterns{List: many(1).List, But: buts[:300]}, api.Patterns{List: many(150).List, But: buts[:151]})
	for _, p := range bad {
		if x, e := trie.New(p); x != nil || e != api.ErrPattern || liang.Check(p) {
			t.Errorf("New(%v): %v, %v", p, x, e)
		}
	}
}

// P11.1: a trie there is of all other patterns, just as layer 10 tells which may be.
func TestAsPatternsMayBe(t *testing.T) {
	source := rand.New(rand.NewSource(1101))
	may := 0
	all := some(3000)
	for _, p := range all {
		if len(p.List) > 0 {
			x := &p.List[source.Intn(len(p.List))]
			switch at := source.Intn(len(x.Values)); source.Intn(5) {
			case 0:
				x.Values[at] += source.Intn(5) - 2
			case 1:
				x.Values = x.Values[:at]
			case 2:
				x.Letters += "."
			}
		}
		if len(p.But) > 0 {
			p.But[0].At[0] += source.Intn(4) / 2
		}
		check := liang.Check(p)
		x, e := trie.New(p)
		if (x != nil) != check || (e == api.OK) != check || !check && e != api.ErrPattern {
			t.Errorf("New(%v): %v, %v", p, x, e)
		}
		if check {
			may++
			hold(t, p)
		}
	}
	if may < 500 || may > len(all)-500 {
		t.Errorf("%d may be", may)
	}
}

// P11.1, P11.2: no patterns: there is a node of nothing, and no number.
func TestNoPatterns(t *testing.T) {
	for _, p := range []api.Patterns{{}, {List: []api.Pattern{}}, {List: []api.Pattern{}, But: []api.Exception{}}, {List: many(9).List[:0]}} {
		if n := made(t, p).Nodes(); n != 1 {
			t.Errorf("%d nodes", n)
		}
		told(t, p, "a", 0, 0)
		told(t, p, "table", 0, 0, 0, 0, 0, 0)
		told(t, p, az, make([]int, 41)...)
		for _, word := range wrong() {
			holdWord(t, made(t, p), p, word)
		}
	}
}

// P11.1, P11.2: exceptions, alone and beside patterns, are nothing to the trie.
func TestExceptions(t *testing.T) {
	buts := []api.Exception{but("table", 2), but("ab", 1), but(az, 1, 39), but("ab", 1)}
	p := api.Patterns{But: buts}
	if n := made(t, p).Nodes(); n != 1 {
		t.Errorf("%d nodes", n)
	}
	told(t, p, "table", 0, 0, 0, 0, 0, 0)
	told(t, p, "ab", 0, 0, 0)
	told(t, p, az, make([]int, 41)...)
	p.List = []api.Pattern{of("ab", 0, 3, 0)}
	told(t, p, "table", 0, 0, 3, 0, 0, 0)
	told(t, p, "ab", 0, 3, 0)
	if n := made(t, p).Nodes(); n != 3 {
		t.Errorf("%d nodes", n)
	}
	for _, q := range some(200) {
		x, y := made(t, q), made(t, list(q.List...))
		q.But = append(q.But, buts...)
		z := made(t, q)
		if x.Nodes() != y.Nodes() || z.Nodes() != y.Nodes() {
			t.Errorf("%v: %d, %d, %d nodes", q, x.Nodes(), y.Nodes(), z.Nodes())
		}
		for _, word := range append(wordsOf(q), "table") {
			if l := y.Values(word); !slices.Equal(x.Values(word), l) || !slices.Equal(z.Values(word), l) {
				t.Errorf("%v, %q", q, word)
			}
		}
	}
}

// P11.1, P11.2: as many patterns as there may be, with exceptions and without.
func TestCounts(t *testing.T) {
	for _, n := range []int{0, 1, 2, 150, 299, 300} {
		p := many(n)
		hold(t, p, az)
		if n < 300 {
			p.But = slices.Repeat([]api.Exception{but("ab", 1)}, 300-n)
			hold(t, p, az)
		}
	}
	if n := made(t, many(300)).Nodes(); n != 1+26+300 {
		t.Errorf("%d nodes", n)
	}
	var long api.Patterns
	for i := range 300 {
		long.List = append(long.List, rising("."+string([]byte{'a' + byte(i%20), 'a' + byte(i/20)})+az[:38]+".", i))
	}
	if n := made(t, long).Nodes(); n != 2+20+300*40 {
		t.Errorf("%d nodes", n)
	}
	for _, x := range long.List {
		holdWord(t, made(t, long), long, strings.Trim(x.Letters, "."))
	}
}

// P11.2: patterns of each length, with dots and without, in words of each length.
func TestLengths(t *testing.T) {
	for _, x := range []struct{ ahead, behind string }{{"", ""}, {".", ""}, {"", "."}, {".", "."}} {
		for n := 1; n <= api.MaxWord; n++ {
			p := list(rising(x.ahead+az[:n]+x.behind, n))
			hold(t, p)
			y := made(t, p)
			for k := range api.MaxWord + 2 {
				holdWord(t, y, p, (az + "a")[:k])
				holdWord(t, y, p, ("z" + az)[:k])
				holdWord(t, y, p, (az + "a")[k/2:k])
			}
			holdNodes(t, y, p)
		}
	}
	told(t, list(flat(az, 7)), az, slices.Repeat([]int{7}, 41)...)
	told(t, list(flat("."+az+".", 7)), az, slices.Repeat([]int{7}, 41)...)
	told(t, list(flat("."+az+".", 7)), az[:39], make([]int, 40)...)
	told(t, list(rising("a", 1)), "a", 1, 2)
	told(t, list(rising(".a", 1)), "a", 2, 3)
	told(t, list(rising("a.", 1)), "a", 1, 2)
	told(t, list(rising(".a.", 1)), "a", 2, 3)
	told(t, list(rising(".a", 1)), "aa", 2, 3, 0)
	told(t, list(rising("a.", 1)), "aa", 0, 1, 2)
	told(t, list(rising(".a.", 1)), "aa", 0, 0, 0)
}

// P11.2: where a pattern stands in a word.
func TestStands(t *testing.T) {
	p := list(of("ab", 1, 2, 3))
	told(t, p, "ab", 1, 2, 3)
	told(t, p, "abx", 1, 2, 3, 0)
	told(t, p, "xab", 0, 1, 2, 3)
	told(t, p, "xabx", 0, 1, 2, 3, 0)
	told(t, p, "abab", 1, 2, 3, 2, 3)
	told(t, p, "abxab", 1, 2, 3, 1, 2, 3)
	told(t, p, "xy", 0, 0, 0)
	told(t, p, "a", 0, 0)
	told(t, p, "b", 0, 0)
	told(t, p, "ba", 0, 0, 0)
	told(t, p, "axb", 0, 0, 0, 0)
	told(t, p, "aab", 0, 1, 2, 3)
	told(t, p, "abb", 1, 2, 3, 0)
	told(t, list(of("aba", 1, 2, 3, 4)), "ababa", 1, 2, 3, 4, 3, 4)
	told(t, list(of("aba", 4, 3, 2, 1)), "ababa", 4, 3, 4, 3, 2, 1)
	told(t, list(of("aa", 0, 1, 0)), "aaaa", 0, 1, 1, 1, 0)
	told(t, list(of("aaa", 9, 0, 5, 0)), "aaaaa", 9, 9, 9, 5, 5, 0)
	told(t, list(of("a", 3, 4)), "aba", 3, 4, 3, 4)
	told(t, list(of(".ab", 5, 1, 2, 3)), "abab", 1, 2, 3, 0, 0)
	told(t, list(of("ab.", 1, 2, 3, 5)), "abab", 0, 0, 1, 2, 3)
	told(t, list(of(".ab.", 5, 1, 2, 3, 5)), "abab", 0, 0, 0, 0, 0)
	told(t, list(of(".ab.", 5, 1, 2, 3, 5)), "ab", 1, 2, 3)
	told(t, list(of("abcd", 1, 1, 1, 1, 1)), "abc", 0, 0, 0, 0)
	told(t, list(of("abcd", 1, 1, 1, 1, 1)), "bcd", 0, 0, 0, 0)
	told(t, list(of("abcdefgh", 1, 1, 1, 1, 1, 1, 1, 1, 1)), "abc", 0, 0, 0, 0)
	told(t, list(flat(".abc.", 1)), "ab", 0, 0, 0)
	told(t, list(flat(".abc.", 1)), "bc", 0, 0, 0)
}

// P11.2: a pattern that is longer than the word with its dots, or begins in it and goes on, does not stand.
func TestLonger(t *testing.T) {
	for n := 1; n <= api.MaxWord; n++ {
		p := list(flat(az, 9), flat("."+az+".", 9), flat(az+".", 8), flat("."+az, 7))
		want := 0
		if n == api.MaxWord {
			want = 9
		}
		told(t, p, az[:n], slices.Repeat([]int{want}, n+1)...)
		if n < api.MaxWord {
			told(t, p, "z"+az[40-n:], make([]int, n+2)...)
		}
	}
}

// P11.2: the numbers ahead of the first letter and behind the last one are those of all that stands there, the dots among it, and no others are told.
func TestEnds(t *testing.T) {
	told(t, list(of(".a", 9, 0, 0), of("a.", 0, 0, 9)), "a", 0, 0)
	told(t, list(of(".a", 0, 4, 0), of("a.", 0, 5, 0)), "a", 4, 5)
	told(t, list(of(".a", 0, 4, 0), of("a", 6, 0)), "a", 6, 0)
	told(t, list(of("a.", 0, 4, 0), of("a", 0, 6)), "a", 0, 6)
	told(t, list(of(".a", 0, 4, 0), of("a", 3, 0)), "a", 4, 0)
	told(t, list(of("a.", 0, 4, 0), of("a", 0, 3)), "a", 0, 4)
	told(t, list(of(".a.", 9, 1, 2, 9)), "a", 1, 2)
	told(t, list(of("."+az+".", append(append([]int{9, 3}, make([]int, 39)...), 4, 9)...)), az, append(append([]int{3}, make([]int, 39)...), 4)...)
	told(t, list(of("z", 8, 0)), "az", 0, 8, 0)
	told(t, list(of("z", 0, 8)), "za", 0, 8, 0)
}

// P11.2: of several Values for one place the greatest, whichever pattern comes first, and however they come to stand there.
func TestGreatest(t *testing.T) {
	for _, x := range []struct {
		word string
		want []int
		l    []api.Pattern
	}{
		{"ab", []int{0, 7, 0}, []api.Pattern{of("ab", 0, 5, 0), of("a", 0, 7), of("b", 6, 0)}},
		{"ab", []int{0, 7, 0}, []api.Pattern{of("ab", 0, 7, 0), of("a", 0, 5), of("b", 6, 0)}},
		{"ab", []int{0, 7, 0}, []api.Pattern{of("ab", 0, 5, 0), of("a", 0, 6), of("b", 7, 0)}},
		{"ab", []int{1, 9, 2}, []api.Pattern{of(".ab.", 9, 1, 0, 2, 9), of("ab", 0, 9, 0), of(".ab", 0, 0, 8, 1), of("ab.", 0, 3, 0, 0)}},
		{"abc", []int{3, 2, 2, 3}, []api.Pattern{of("abc", 1, 2, 1, 2), of("ab", 3, 0, 2), of("bc", 1, 2, 3)}},
		{"ab", []int{4, 5, 6}, []api.Pattern{of("ab", 4, 0, 0), of("ab", 0, 5, 0), of("ab", 0, 0, 6)}},
		{"ab", []int{4, 5, 6}, []api.Pattern{of("ab", 4, 5, 0), of("ab", 3, 4, 6), of("ab", 1, 1, 1), of("ab", 0, 0, 0)}},
	} {
		orders(x.l, func(l []api.Pattern) { told(t, list(l...), x.word, x.want...) })
	}
}

// orders gives all orders of patterns.
func orders(l []api.Pattern, told func(l []api.Pattern)) {
	if len(l) == 0 {
		told(nil)
	}
	for i := range l {
		orders(slices.Delete(slices.Clone(l), i, i+1), func(rest []api.Pattern) { told(append(slices.Clone(rest), l[i])) })
	}
}

// P11.2: a pattern that is the beginning, the end, or the middle of another one, or is that without its dots, stands besides it, and without it.
func TestOneInAnother(t *testing.T) {
	long := of("abcde", 0, 1, 0, 0, 2, 0)
	for _, x := range []struct {
		word string
		want []int
		p    api.Pattern
	}{
		{"abcde", []int{5, 1, 7, 0, 2, 0}, of("ab", 5, 0, 7)},
		{"abcx", []int{5, 0, 7, 0, 0}, of("ab", 5, 0, 7)},
		{"abcde", []int{0, 1, 0, 5, 6, 7}, of("de", 5, 6, 7)},
		{"xde", []int{0, 5, 6, 7}, of("de", 5, 6, 7)},
		{"abcde", []int{0, 5, 6, 7, 2, 0}, of("bc", 5, 6, 7)},
		{"abcdx", []int{0, 5, 6, 7, 0, 0}, of("bc", 5, 6, 7)},
		{"abcde", []int{3, 1, 0, 0, 2, 0}, of(".abcde", 0, 3, 0, 0, 0, 0, 0)},
		{"abcdeabcde", []int{3, 1, 0, 0, 2, 0, 1, 0, 0, 2, 0}, of(".abcde", 0, 3, 0, 0, 0, 0, 0)},
		{"abcdeabcde", []int{0, 1, 0, 0, 2, 0, 1, 0, 0, 2, 4}, of("abcde.", 0, 0, 0, 0, 0, 4, 0)},
		{"abcde", []int{3, 1, 0, 0, 2, 4}, of(".abcde.", 0, 3, 0, 0, 0, 0, 4, 0)},
		{"abcdex", []int{0, 1, 0, 0, 2, 0, 0}, of(".abcde.", 0, 3, 0, 0, 0, 0, 4, 0)},
		{"abcde", []int{0, 1, 0, 0, 2, 0}, of("abcdef", 9, 9, 9, 9, 9, 9, 9)},
		{"abcdef", []int{9, 9, 9, 9, 9, 9, 9}, of("abcdef", 9, 9, 9, 9, 9, 9, 9)},
		{"abcdf", []int{8, 0, 0, 0, 0, 8}, of("abcdf", 8, 0, 0, 0, 0, 8)},
	} {
		told(t, list(long, x.p), x.word, x.want...)
		told(t, list(x.p, long), x.word, x.want...)
		told(t, list(x.p, long, x.p), x.word, x.want...)
	}
}

// P11.2: Values of 0 and of 9, and all others, at each place.
func TestValues(t *testing.T) {
	for _, letters := range []string{"a", "ab", ".ab", "ab.", ".ab.", az, "." + az + "."} {
		for v := range 10 {
			hold(t, list(flat(letters, v)))
			for at := range len(letters) + 1 {
				p := flat(letters, 0)
				p.Values[at] = v
				q := flat(letters, 9)
				q.Values[at] = v
				hold(t, list(p))
				hold(t, list(q))
				hold(t, list(p, rising(letters, v)))
			}
		}
	}
	told(t, list(flat("ab", 0), flat(".a", 0)), "ab", 0, 0, 0)
	told(t, list(flat("ab", 0), of(".a", 0, 0, 2)), "ab", 0, 2, 0)
	told(t, list(flat("ab", 9)), "ab", 9, 9, 9)
	if n := made(t, list(flat("ab", 0), flat(".a", 0))).Nodes(); n != 5 {
		t.Errorf("%d nodes", n)
	}
}

// P11.2: words that may not be have no numbers, whatever the patterns.
func TestWrongWords(t *testing.T) {
	for _, p := range append(some(5), api.Patterns{}, many(300), list(flat("a", 9), flat("b", 9), flat(".a", 9)), list(flat(az, 3))) {
		x := made(t, p)
		for _, word := range wrong() {
			if l := x.Values(word); len(l) != 0 {
				t.Errorf("Values(%q): %v", word, l)
			}
		}
		holdNodes(t, x, p)
		for _, word := range wordsOf(p) {
			holdWord(t, x, p, word)
		}
	}
	x := made(t, list(flat("a", 9)))
	for n := range 100 {
		word := strings.Repeat("a", n)
		want := slices.Repeat([]int{9}, n+1)
		if n < 1 || n > 40 {
			want = nil
		}
		if l := x.Values(word); !slices.Equal(l, want) {
			t.Errorf("%d letters: %v", n, l)
		}
	}
}

// R1, for P11.2: words that are long end, too.
func TestLong(t *testing.T) {
	x := made(t, many(300))
	for _, part := range []string{"a", "A", ".", "é", "\xff", "ab", "zzzzz."} {
		if l := x.Values(strings.Repeat(part, 1<<22)); len(l) != 0 {
			t.Errorf("%q: %d numbers", part, len(l))
		}
	}
}

// P11.2: the nodes of patterns, written out.
func TestNodes(t *testing.T) {
	for _, x := range []struct {
		want int
		l    []api.Pattern
	}{
		{1, nil},
		{2, []api.Pattern{flat("a", 1)}},
		{3, []api.Pattern{flat("ab", 1)}},
		{4, []api.Pattern{flat(".a.", 1)}},
		{41, []api.Pattern{flat(az, 1)}},
		{43, []api.Pattern{flat("."+az+".", 1)}},
		{3, []api.Pattern{flat("ab", 1), flat("ab", 1)}},
		{3, []api.Pattern{flat("ab", 1), flat("ab", 2), flat("ab", 0)}},
		{3, []api.Pattern{flat("ab", 1), flat("a", 2)}},
		{3, []api.Pattern{flat("a", 1), flat("ab", 2)}},
		{4, []api.Pattern{flat("ab", 1), flat("ac", 1)}},
		{4, []api.Pattern{flat("ab", 1), flat("b", 1)}},
		{5, []api.Pattern{flat("ab", 1), flat("ba", 1)}},
		{5, []api.Pattern{flat("ab", 1), flat("cb", 1)}},
		{5, []api.Pattern{flat("aaaa", 1), flat("aa", 1), flat("aaa", 1)}},
		{6, []api.Pattern{flat(".ab", 1), flat("ab", 1)}},
		{4, []api.Pattern{flat("ab.", 1), flat("ab", 1)}},
		{7, []api.Pattern{flat(".ab.", 1), flat("ab", 1)}},
		{8, []api.Pattern{flat(".ab.", 1), flat("ab.", 1)}},
		{8, []api.Pattern{flat("abcd", 1), flat("abxy", 1), flat("abcz", 1)}},
	} {
		orders(x.l, func(l []api.Pattern) {
			if n := made(t, list(l...)).Nodes(); n != x.want {
				t.Errorf("%v: %d nodes, not %d", l, n, x.want)
			}
			hold(t, list(l...))
		})
	}
	if n := made(t, many(26)).Nodes(); n != 1+26+26 {
		t.Errorf("%d nodes", n)
	}
}

// P11.2: patterns of all kinds.
func TestSome(t *testing.T) {
	source := rand.New(rand.NewSource(1102))
	all := some(1500)
	for _, p := range all {
		var words []string
		for range 20 {
			words = append(words, anyLetters(source, 40), anyLetters(source, 8))
		}
		hold(t, p, words...)
	}
}

// P11.2: all words of up to five of three letters, by all patterns of up to two of two letters with one Value.
func TestAllShortWords(t *testing.T) {
	words, from := []string{}, []string{""}
	for range 5 {
		var longer []string
		for _, word := range from {
			longer = append(longer, word+"a", word+"b", word+"c")
		}
		words, from = append(words, longer...), longer
	}
	for _, core := range []string{"a", "b", "aa", "ab", "ba", "bb"} {
		for _, letters := range []string{core, "." + core, core + ".", "." + core + "."} {
			for at := range len(letters) + 1 {
				one := flat(letters, 0)
				one.Values[at] = 4
				for _, p := range []api.Patterns{list(one), list(one, of("ab", 3, 5, 3)), list(of(".b", 5, 3, 5), one)} {
					x := made(t, p)
					for _, word := range words {
						holdWord(t, x, p, word)
					}
				}
			}
		}
	}
}

// P11.3: neither the order of patterns, nor one that comes twice, changes an answer.
func TestOrder(t *testing.T) {
	source := rand.New(rand.NewSource(1103))
	for _, p := range append(some(300), many(300), many(150)) {
		x := made(t, p)
		q := copied(p)
		for range 4 {
			source.Shuffle(len(q.List), func(i, j int) { q.List[i], q.List[j] = q.List[j], q.List[i] })
			y := made(t, q)
			if x.Nodes() != y.Nodes() {
				t.Errorf("%v: %d nodes, %d nodes", q, x.Nodes(), y.Nodes())
			}
			for _, word := range wordsOf(p) {
				if l, k := x.Values(word), y.Values(word); !slices.Equal(l, k) {
					t.Errorf("%v: %q: %v, %v", q, word, l, k)
				}
			}
			if n := len(q.List); n > 0 && n < 149 {
				q.List = slices.Insert(q.List, source.Intn(n+1), q.List[source.Intn(n)])
			}
		}
	}
}

// P11.3: with more patterns no number is less, and there are no fewer nodes.
func TestMore(t *testing.T) {
	for _, p := range some(300) {
		words := append(wordsOf(p), "")
		was := make([][]int, len(words))
		count := 0
		for n := range len(p.List) + 1 {
			x := made(t, api.Patterns{List: p.List[:n], But: p.But})
			for i, word := range words {
				l := x.Values(word)
				for k := range was[i] {
					if l[k] < was[i][k] {
						t.Errorf("%v: %q: %v behind %v", p.List[:n], word, l, was[i])
					}
				}
				was[i] = l
			}
			if x.Nodes() < count {
				t.Errorf("%v: %d nodes behind %d", p.List[:n], x.Nodes(), count)
			}
			count = x.Nodes()
		}
	}
}

// R1, for P11.2: a nil trie answers zero values, and one that came of nowhere does not panic.
func TestNil(t *testing.T) {
	var x *trie.Trie
	for _, word := range append(wrong(), "a", "table", az) {
		if l := x.Values(word); len(l) != 0 {
			t.Errorf("Values(%q): %v", word, l)
		}
	}
	if n := x.Nodes(); n != 0 {
		t.Errorf("%d nodes", n)
	}
	(&trie.Trie{}).Values("a")
	(&trie.Trie{}).Nodes()
	y := new(trie.Trie)
	y.Nodes()
	y.Values("table")
	y.Values("")
}

// P11.2: a trie is asked more than once, in any order: each answer is the one that it is when it is asked first.
func TestAskedAgain(t *testing.T) {
	source := rand.New(rand.NewSource(1104))
	for _, p := range append(some(200), api.Patterns{}, many(60)) {
		words := append(wordsOf(p), "", "A", "a.", az+"a")
		x := made(t, p)
		for range 3 * len(words) {
			word := words[source.Intn(len(words))]
			if source.Intn(3) == 0 {
				holdNodes(t, x, p)
			} else if l, k := x.Values(word), made(t, p).Values(word); !slices.Equal(l, k) || !slices.Equal(k, numbers(p, word)) {
				t.Errorf("%v: %q: %v, %v", p, word, l, k)
			}
		}
		holdNodes(t, x, p)
		holdNodes(t, made(t, p), p)
	}
}

// P11.2: tries of other patterns, asked in turns, have nothing to do with one another.
func TestSideBySide(t *testing.T) {
	all := some(40)
	var tries []*trie.Trie
	for _, p := range all {
		tries = append(tries, made(t, p))
	}
	for range 2 {
		for i, p := range all {
			holdNodes(t, tries[i], p)
			for k, x := range tries {
				for _, word := range wordsOf(p) {
					holdWord(t, x, all[k], word)
				}
			}
		}
	}
}

// P11.2, R5: several goroutines that ask one trie at once, the first ones among them, are all told what one is told.
func TestAtOnce(t *testing.T) {
	for i, p := range append(some(60), many(300), api.Patterns{}) {
		words := append(wordsOf(p)[:11], "", "A")
		for _, x := range p.List[:min(5, len(p.List))] {
			words = append(words, strings.Trim(x.Letters, "."))
		}
		x := made(t, p)
		var all sync.WaitGroup
		begin := make(chan struct{})
		for n := range 8 {
			all.Go(func() {
				<-begin
				for k := range words {
					if n%2 == 0 {
						holdNodes(t, x, p)
					}
					holdWord(t, x, p, words[(k*(2*n+1)+n+i)%len(words)])
					holdNodes(t, x, p)
				}
			})
		}
		close(begin)
		all.Wait()
		holdNodes(t, x, p)
	}
}

// R5: tries are made at once, of the same patterns.
func TestMadeAtOnce(t *testing.T) {
	l := append(some(30), many(300), api.Patterns{}, list(flat("a", 10)))
	var all sync.WaitGroup
	for n := range 8 {
		all.Go(func() {
			for i := range l {
				p := l[(i*(2*n+1)+n)%len(l)]
				x, e := trie.New(p)
				if (x != nil) != liang.Check(p) || (e == api.OK) != liang.Check(p) {
					t.Errorf("New(%v): %v", p, e)
				}
				if x != nil {
					holdNodes(t, x, p)
					holdWord(t, x, p, "abaab")
				}
			}
		})
	}
	all.Wait()
}

// roomy are patterns with spare room behind all lists, in which there is what may be, and what may not.
func roomy(p api.Patterns) api.Patterns {
	q := copied(p)
	for i, x := range q.List {
		q.List[i].Values = append(slices.Clone(x.Values), 9, 8, -1)[:len(x.Values)]
	}
	for i, x := range q.But {
		q.But[i].At = append(slices.Clone(x.At), 0, 99)[:len(x.At)]
	}
	q.List = append(q.List, flat("a", 9), of("A", 1))[:len(q.List)]
	q.But = append(q.But, but("A", 0))[:len(q.But)]
	return q
}

// whole are patterns, and all that stands in the spare room of their lists, in memory of their own.
func whole(p api.Patterns) api.Patterns {
	q := api.Patterns{List: slices.Clone(p.List[:cap(p.List)]), But: slices.Clone(p.But[:cap(p.But)])}
	for i, x := range q.List {
		q.List[i].Values = slices.Clone(x.Values[:cap(x.Values)])
	}
	for i, x := range q.But {
		q.But[i].At = slices.Clone(x.At[:cap(x.At)])
	}
	return q
}

// spoil sets all lists of patterns, and their spare room, to other things that may be.
func spoil(p api.Patterns) {
	for _, x := range p.List[:cap(p.List)] {
		for i := range x.Values[:cap(x.Values)] {
			x.Values[:cap(x.Values)][i] = 9
		}
	}
	for _, x := range p.But {
		clear(x.At[:cap(x.At)])
	}
	for i := range p.List[:cap(p.List)] {
		p.List[:cap(p.List)][i] = flat("a", 9)
	}
	clear(p.But[:cap(p.But)])
}

// R4, for P11.1: what is handed in stays as it is, its spare room too, which counts for nothing; later changes of all of that change no answer, whether the trie was asked before or not.
func TestHandedIn(t *testing.T) {
	for i, p := range append(some(200), many(300), many(9), list(of("ab", 4, 0, 0), of("ab", 0, 5, 0), of("ab", 0, 0, 6))) {
		q := roomy(p)
		was := whole(q)
		x, y, z := made(t, q), made(t, q), made(t, q)
		words := wordsOf(p)
		for _, word := range words {
			holdWord(t, x, p, word)
		}
		holdNodes(t, y, p)
		if !same(whole(q), was) {
			t.Errorf("%d: %v is %v", i, was, whole(q))
		}
		spoil(q)
		for _, trie := range []*trie.Trie{x, y, z} {
			for _, word := range words {
				holdWord(t, trie, p, word)
			}
			holdNodes(t, trie, p)
		}
	}
}

// R4, for P11.1: patterns that may not be stay as they are, too.
func TestHandedInThatMayNotBe(t *testing.T) {
	for _, p := range []api.Patterns{list(flat("a", 10)), many(301), {List: many(5).List, But: []api.Exception{but("a", 1)}}} {
		q := roomy(p)
		was := whole(q)
		if x, e := trie.New(q); x != nil || e != api.ErrPattern || !same(whole(q), was) {
			t.Errorf("%v: %v, %v", q, x, e)
		}
	}
}

// R4, for P11.1: patterns that share their Values' memory with one another are two patterns.
func TestHandedInShared(t *testing.T) {
	values := []int{1, 2, 3, 4, 5}
	p := list(of("ab", values[:3]...), of("ba", values[1:4]...), of("abc", values[1:]...), of("bca", values[:4]...), of("ab", values[2:]...))
	told(t, copied(p), "abca", 3, 4, 5, 5, 4)
	told(t, p, "abca", 3, 4, 5, 5, 4)
	if !slices.Equal(values, []int{1, 2, 3, 4, 5}) {
		t.Error(values)
	}
}

// R4, for P11.2: changes of an answer, and of its spare room, change no later one, and none ahead of it.
func TestAnswers(t *testing.T) {
	for _, p := range append(some(200), many(300), api.Patterns{}, list(flat("a", 3)), list(flat(".a.", 3)), list(flat(az, 3))) {
		x := made(t, p)
		for _, word := range wordsOf(p) {
			before := x.Values(word)
			l := x.Values(word)
			l = l[:cap(l)]
			for i := range l {
				l[i] = 77
			}
			if !slices.Equal(before, numbers(p, word)) {
				t.Errorf("%v: %q: %v", p, word, before)
			}
			holdWord(t, x, p, word)
		}
		holdNodes(t, x, p)
	}
}
