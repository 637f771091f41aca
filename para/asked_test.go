package para_test

import (
	"cmp"
	"math"
	"math/rand"
	"reflect"
	"slices"
	"strconv"
	"strings"
	"testing"

	"compositor/api"
	"compositor/hyph"
	"compositor/trie"
)

// What the chapter's words ask, told another way than the package tells it; and paragraphs to ask it of.

// asked is what Breaks is asked, but for whether words are to be parted.
type asked struct {
	trie  *trie.Trie
	but   []api.Exception
	l     api.Layout
	words []api.Word
}

// breaks are what the chapter's words ask of Breaks: each place inside a word is asked which kind it is of.
func breaks(q asked, parted bool) ([]api.Break, api.Errno) {
	switch {
	case q.trie == nil:
		return nil, 1
	case !wordsMayBe(q.words):
		return nil, 130
	case !layoutMayBe(q.l):
		return nil, 140
	}
	l := []api.Break{at(0, 0, 0)}
	for i, w := range q.words {
		points := hyph.Points(q.trie, q.but, w.Codes, q.l.Left, q.l.Right)
		for place := 1; place < len(w.Codes); place++ {
			switch {
			case slices.Contains(w.Soft, place):
				l = append(l, at(3, i, place))
			case w.Codes[place-1] == 45:
				l = append(l, at(4, i, place))
			case parted && len(w.Soft) == 0 && slices.Contains(points, place):
				l = append(l, at(2, i, place))
			}
		}
		l = append(l, at(1, i, len(w.Codes)))
	}
	l[len(l)-1].Kind = 5
	if len(l) > 200 {
		return nil, 160
	}
	return l, 0
}

// before is what they ask of Before: a start stands ahead of all else, and all else is in the order of words, and of places in them.
func before(a, b api.Break) bool {
	if a.Kind == 0 || b.Kind == 0 {
		return a.Kind == 0 && b.Kind != 0
	}
	return cmp.Or(cmp.Compare(a.Word, b.Word), cmp.Compare(a.At, b.At)) < 0
}

// at is a break.
func at(kind, word, place int) api.Break {
	return api.Break{Kind: kind, Word: word, At: place}
}

// told are breaks as a text: of each its kind's letter (of those from BStart on), its word, and its place in that.
func told(l []api.Break) string {
	var all []string
	for _, b := range l {
		all = append(all, "^_hs-$"[b.Kind:b.Kind+1]+strconv.Itoa(b.Word)+"."+strconv.Itoa(b.At))
	}
	return strings.Join(all, " ")
}

// word is one of a text: of its bytes, but each |, where it is parted by hand.
func word(text string) api.Word {
	var w api.Word
	for _, b := range []byte(text) {
		if b == '|' {
			w.Soft = append(w.Soft, len(w.Codes))
		} else {
			w.Codes = append(w.Codes, int(b))
		}
	}
	return w
}

// words are those of a text, in which blanks stand between them.
func words(text string) []api.Word {
	var l []api.Word
	for _, letters := range strings.Fields(text) {
		l = append(l, word(letters))
	}
	return l
}

// times is a text so many times.
func times(text string, count int) string { return strings.Repeat(text, count) }

// of is a pattern, and but an exception.
func of(letters string, values ...int) api.Pattern {
	return api.Pattern{Letters: letters, Values: values}
}

func but(letters string, places ...int) api.Exception {
	return api.Exception{Word: letters, At: places}
}

// made is a trie of patterns.
func made(t *testing.T, l ...api.Pattern) *trie.Trie {
	t.Helper()
	x, e := trie.New(api.Patterns{List: l})
	if e != api.OK {
		t.Fatalf("%v: %v", l, e)
	}
	return x
}

// parts is a layout whose words' least parts are these.
func parts(left, right int) api.Layout {
	return api.Layout{Width: 1, Left: left, Right: right}
}

// among tells whether all of some numbers are from a first one to a last one.
func among(l []int, first, last int) bool {
	return len(l) == 0 || slices.Min(l) >= first && slices.Max(l) <= last
}

// wordsMayBe tells whether words may be.
func wordsMayBe(l []api.Word) bool {
	codes := 0
	for _, w := range l {
		rising := slices.Compact(slices.Sorted(slices.Values(w.Soft)))
		if len(w.Codes) == 0 || len(w.Codes) > 60 || !among(w.Codes, 33, 126) || !among(w.Soft, 1, len(w.Codes)-1) || !slices.Equal(rising, w.Soft) {
			return false
		}
		codes += len(w.Codes)
	}
	return len(l) != 0 && len(l) < 101 && codes < 401
}

// wrongWords are words that may not be, in each way, alone and among others.
func wrongWords() [][]api.Word {
	all := [][]api.Word{nil, {}, words(times("a ", 101)), words(times("ab|c- ", 101)), words(times(times("-", 60)+" ", 6) + times("a", 41)), words(times(times("a", 50)+" ", 8) + "a"), words(times(times("-", 58)+" ", 7))}
	var wrong []api.Word
	for _, code := range []int{32, 127, 31, 0, -1, -45, 128, 45 + 256, 45 + 1<<32, -1<<63 + 45, math.MinInt, math.MaxInt} {
		wrong = append(wrong, api.Word{Codes: []int{code}}, api.Word{Codes: []int{code, 'a', 'b'}, Soft: []int{1, 2}}, api.Word{Codes: []int{'a', '-', code}})
	}
	for _, soft := range [][]int{{0}, {-1}, {3}, {4}, {1, 1}, {2, 1}, {2, 2}, {0, 1}, {1, 2, 3}, {2, 3}, {1, 2, 1}, {math.MinInt}, {math.MaxInt}, {1, math.MaxInt}, {1<<32 + 1}} {
		wrong = append(wrong, api.Word{Codes: []int{'a', '-', 'b'}, Soft: soft}, api.Word{Codes: []int{'a', 'b', 'a'}, Soft: soft})
	}
	wrong = append(wrong, api.Word{}, api.Word{Soft: []int{0}}, api.Word{Soft: []int{1}}, api.Word{Codes: []int{'a'}, Soft: []int{1}}, word(times("a", 61)), word(times("-", 61)), word(times("a|", 60)+"a"))
	for _, w := range wrong {
		many := words(times(times("-", 60)+" ", 4))
		all = append(all, []api.Word{w}, append(words("ab-c a"), w), append([]api.Word{w}, words("ab-c a")...), slices.Concat(words("a"), []api.Word{w}, words("b")), append(many, w), append([]api.Word{w}, many...))
	}
	return all
}

// limit is a field's name, with the least and the greatest number that it may be.
type limit struct {
	name        string
	least, most int
}

// limits are those of all of a layout's fields but Shape's and Hang, whose ones hang on Width.
var limits = []limit{
	{"Width", 1, 67108864}, {"Space", 0, 4194304}, {"Stretch", 0, 4194304}, {"Shrink", 0, 4194304}, {"After", -100, 100},
	{"Left", 0, 40}, {"Right", 0, 40}, {"First", -1, 10000}, {"Second", 0, 10000}, {"Extra", 0, 67108864},
	{"LinePen", 0, 1000}, {"HyphPen", -1000, 1000}, {"DashPen", -1000, 1000},
	{"Jump", 0, 10000}, {"Double", 0, 10000}, {"Final", 0, 10000}, {"River", 0, 10000}, {"Ladder", 0, 10000}, {"Loose", -5, 5},
}

// field is a layout's, by its name.
func field(l *api.Layout, name string) *int {
	return reflect.ValueOf(l).Elem().FieldByName(name).Addr().Interface().(*int)
}

// layoutMayBe tells whether a layout may be.
func layoutMayBe(l api.Layout) bool {
	for _, x := range limits {
		if n := *field(&l, x.name); n < x.least || x.most < n {
			return false
		}
	}
	wrong := slices.ContainsFunc(l.Shape, func(s api.Line) bool {
		return s.Indent < 0 || s.Indent > 67108864 || s.Width < 1 || s.Width > 67108864
	})
	return !wrong && len(l.Shape) < 41 && -l.Width < l.Hang && l.Hang < l.Width
}

// plain is a layout no two of whose numbers are one, with so many lines of Shape.
func plain(count int) api.Layout {
	l := api.Layout{
		Width: 5000, Space: 300, Stretch: 170, Shrink: 111, Hang: -40, After: 3, Left: 2, Right: 1, First: 101, Second: 207,
		Extra: 99, LinePen: 10, HyphPen: 50, DashPen: -51, Jump: 1001, Double: 1002, Final: 1003, River: 1004, Ladder: 1005, Loose: 4,
	}
	for i := range count {
		l.Shape = append(l.Shape, api.Line{Indent: 1000 - i, Width: 100 + 7*i})
	}
	return l
}

// wrongLayouts are layouts that may not be, by each of their numbers.
func wrongLayouts() []api.Layout {
	all := []api.Layout{{}, plain(41), plain(42), {Width: 7, Hang: 7}, {Width: 7, Hang: -7}, {Width: 7, Hang: math.MinInt}, {Width: 7, Shape: make([]api.Line, 1)}}
	for _, x := range limits {
		for _, n := range []int{x.least - 1, x.most + 1, math.MinInt, math.MaxInt, 1<<32 + x.least} {
			for _, l := range []api.Layout{plain(0), plain(3), {Width: 7}} {
				*field(&l, x.name) = n
				all = append(all, l)
			}
		}
	}
	for _, s := range []api.Line{{Indent: -1, Width: 1}, {Indent: 67108865, Width: 1}, {}, {Width: -1}, {Width: 67108865}} {
		l := plain(3)
		l.Shape[1] = s
		all = append(all, l)
	}
	return all
}

// few are codes of which words are made, so that patterns and exceptions often meet them; many are those that make many breaks.
const (
	few  = "aaaaaaaaabbbbbbAAA-('"
	many = "---a"
)

// anyWord is some word of these codes, of so many at most.
func anyWord(source *rand.Rand, codes string, most int) api.Word {
	var w api.Word
	soft := source.Intn(6) - 3
	for range 1 + source.Intn(most) {
		if n := len(w.Codes); n > 0 && source.Intn(4) < soft {
			w.Soft = append(w.Soft, n)
		}
		w.Codes = append(w.Codes, int(codes[source.Intn(len(codes))]))
	}
	return w
}

// anyPattern is some pattern of a and b.
func anyPattern(source *rand.Rand) api.Pattern {
	x := api.Pattern{Values: []int{source.Intn(4)}}
	for range 1 + source.Intn(3) {
		x.Letters += "ab"[source.Intn(2):][:1]
		x.Values = append(x.Values, source.Intn(4))
	}
	return x
}

// some are paragraphs of all kinds, the same ones every time: most of them may be.
func some(t *testing.T, count int) []asked {
	t.Helper()
	source := rand.New(rand.NewSource(16))
	var all []asked
	for range count {
		q := asked{l: plain(source.Intn(4))}
		var list []api.Pattern
		for range source.Intn(5) {
			x := anyPattern(source)
			if !slices.ContainsFunc(list, func(y api.Pattern) bool { return y.Letters == x.Letters }) {
				list = append(list, x)
			}
		}
		q.trie = made(t, list...)
		q.l.Left, q.l.Right = source.Intn(4), source.Intn(4)
		if source.Intn(9) == 0 {
			q.l.Left, q.l.Right = source.Intn(42), source.Intn(42)
		}
		from, codes, most := few, 0, []int{1, 2, 6, 12, 60}[source.Intn(5)]
		if source.Intn(6) == 0 {
			from, most = many, 60
		}
		for range 1 + source.Intn([]int{1, 3, 10, 100}[source.Intn(4)]) {
			w := anyWord(source, from, most)
			if codes += len(w.Codes); codes > 400 && source.Intn(8) > 0 {
				break
			}
			q.words = append(q.words, w)
		}
		for range source.Intn(5) {
			letters, _ := hyph.Core(q.words[source.Intn(len(q.words))].Codes)
			x := but(letters)
			for range source.Intn(4) {
				x.At = append(x.At, source.Intn(len(letters)+4)-1)
			}
			q.but = append(q.but, x)
		}
		all = append(all, q)
	}
	return all
}

// copied is the same in memory of its own, with the same trie.
func copied(q asked) asked {
	q.but, q.l.Shape, q.words = slices.Clone(q.but), slices.Clone(q.l.Shape), slices.Clone(q.words)
	for i := range q.but {
		q.but[i].At = slices.Clone(q.but[i].At)
	}
	for i := range q.words {
		q.words[i] = api.Word{Codes: slices.Clone(q.words[i].Codes), Soft: slices.Clone(q.words[i].Soft)}
	}
	return q
}
