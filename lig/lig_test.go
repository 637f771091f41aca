package lig_test

import (
	"math"
	"math/rand"
	"slices"
	"sync"
	"testing"

	"compositor/api"
	"compositor/lig"
)

// fonts are such as have a program that may be.
func fonts() []api.Font {
	return append(some(60), bare(0, 256), bare(255, 1), plain(), typical(), full(), crowd())
}

// texts are codes that a font has, some of which have rules among them, the same ones every time.
func texts(f api.Font, count int) [][]int {
	source := rand.New(rand.NewSource(88))
	var may, often []int
	for code := 33; code < 127; code++ {
		if there(f, code) {
			may = append(may, code)
		}
	}
	for _, code := range []int{'a', 'b', 'c', 'd', 'e', 'f', 'i', 'l', 'v', 'x', 'z', '?'} {
		if there(f, code) {
			often = append(often, code)
		}
	}
	all := [][]int{nil, {}}
	for range count {
		var l []int
		for range source.Intn(12) {
			if len(often) > 0 && source.Intn(6) > 0 {
				l = append(l, often[source.Intn(len(often))])
			} else if len(may) > 0 {
				l = append(l, may[source.Intn(len(may))])
			}
		}
		all = append(all, l)
	}
	return all
}

// odd are lists of codes, most of which no text has.
func odd() [][]int {
	all := [][]int{{math.MinInt, math.MaxInt}, {'f', 'i', 128}, {'f', 'f', 200, 'i'}, {-1 << 32}, {1<<32 + 'f', 'i'}, {'f' - 256, 'i'}, {'f', 'i' + 256}}
	for _, n := range []int{-2, -1, 0, 1, 31, 32, 33, 34, 102, 125, 126, 127, 128, 129, 130, 131, 132, 133, 134, 254, 255, 256, 257, 102 + 256} {
		all = append(all, []int{n}, []int{'f', n}, []int{n, 'i'}, []int{'a', n, n, 'a'})
	}
	return all
}

// holdSet, and holdExpand, hold Set and Expand against the chapter's words.
func holdSet(t *testing.T, w words, codes []int) {
	t.Helper()
	l, e := lig.Set(w.font, codes)
	if m, x := w.set(codes); e != x || !slices.Equal(l, m) {
		t.Errorf("Set(%v, %v): %v, %v, not %v, %v", w.font, codes, l, e, m, x)
	}
}

func holdExpand(t *testing.T, w words, codes []int) {
	t.Helper()
	l, e := lig.Expand(w.font, codes)
	if m, x := w.expand(codes); e != x || !slices.Equal(l, m) {
		t.Errorf("Expand(%v, %v): %v, %v, not %v, %v", w.font, codes, l, e, m, x)
	}
}

// hold holds all calls against the chapter's words, and tells whether the program may be.
func hold(t *testing.T, f api.Font) bool {
	t.Helper()
	w := wordsOf(f)
	if lig.Check(f) != w.may {
		t.Errorf("Check(%v): %t", f, !w.may)
	}
	for _, l := range append(texts(f, 6), []int{'f', 'i', 'x'}, []int{32}, []int{127}, []int{33, 126}) {
		holdSet(t, w, l)
	}
	for _, l := range [][]int{nil, {'a', 128, 129, 255, -1, 'i'}} {
		holdExpand(t, w, l)
	}
	return w.may
}

// P8.1, P8.2, P8.3, P8.4: the chapter's example.
func TestExample(t *testing.T) {
	l, e := lig.Set(plain(), []int{'f', 'i', 'x'})
	if e != api.OK || !slices.Equal(l, []api.Glyph{{Code: 128}, {Code: 'x'}}) || !lig.Check(plain()) {
		t.Errorf("%v, %v", l, e)
	}
	if l, e := lig.Expand(plain(), []int{128, 'x'}); e != api.OK || !slices.Equal(l, []int{'f', 'i', 'x'}) {
		t.Errorf("%v, %v", l, e)
	}
}

// P8.2, P8.3, P8.4: what is set of a typical font, and what it is made of, written out.
func TestWrittenOut(t *testing.T) {
	const below, beyond = -27779, 19444
	for text, want := range map[string][]api.Glyph{
		"":        nil,
		"x":       {{Code: 'x'}},
		"f":       {{Code: 'f'}},
		"fi":      {{Code: 128}},
		"if":      {{Code: 'i'}, {Code: 'f'}},
		"ff":      {{Code: 130}},                               // not the kern behind it
		"ffi":     {{Code: 132}},                               // of a ligature, one more
		"ffl":     {{Code: 133}},                               // and another one
		"fff":     {{Code: 130}, {Code: 'f'}},                  // no rule
		"ffff":    {{Code: 130}, {Code: 130}},                  // the two behind are one of their own
		"fffi":    {{Code: 130}, {Code: 128}},                  // the first two come first
		"ffx":     {{Code: 130, Kern: 1<<24 - 1}, {Code: 'x'}}, // a kern of a ligature
		"fif":     {{Code: 128, Kern: -1 << 24}, {Code: 'f'}},
		"fif?":    {{Code: 128, Kern: -1 << 24}, {Code: 'f', Kern: beyond}, {Code: '?'}},
		"fi?":     {{Code: 128}, {Code: '?'}}, // a kern of 0
		"ff?":     {{Code: 130, Kern: below}, {Code: '?'}},
		"f?f":     {{Code: 'f', Kern: beyond}, {Code: '?'}, {Code: 'f'}},
		"fl":      {{Code: 131}},
		"flfi":    {{Code: 131}, {Code: 128}},
		"av":      {{Code: 'a', Kern: below}, {Code: 'v'}},
		"bv":      {{Code: 'b', Kern: below}, {Code: 'v'}}, // the same steps
		"vv":      {{Code: 'v'}, {Code: 'v'}},              // the same ones, but the first one
		"vb":      {{Code: 'v', Kern: beyond}, {Code: 'b'}},
		"aa":      {{Code: 'a'}, {Code: 'a'}},
		"abavx":   {{Code: 'a', Kern: beyond}, {Code: 'b'}, {Code: 'a', Kern: below}, {Code: 'v'}, {Code: 'x'}},
		"affiffi": {{Code: 'a'}, {Code: 132}, {Code: 132}},
		"!~":      {{Code: '!'}, {Code: '~'}},
	} {
		var codes []int
		for _, b := range []byte(text) {
			codes = append(codes, int(b))
		}
		if l, e := lig.Set(typical(), codes); e != api.OK || !slices.Equal(l, want) {
			t.Errorf("%q: %v, %v", text, l, e)
		}
		if l, e := lig.Expand(typical(), codesOf(want)); e != api.OK || !slices.Equal(l, codes) {
			t.Errorf("%q: %v, %v", text, l, e)
		}
	}
}

// P8.1, P8.2, P8.3, P8.4: fonts of all kinds, whose programs may be; what is set of them is what the chapter's words ask, and is expanded again.
func TestFonts(t *testing.T) {
	made := 0
	for i, f := range append(fonts(), some(200)...) {
		if !hold(t, f) {
			t.Errorf("%d may not be", i)
		}
		w := wordsOf(f)
		for _, codes := range texts(f, 60) {
			l, e := lig.Set(f, codes)
			if m, x := w.set(codes); e != api.OK || x != api.OK || !slices.Equal(l, m) {
				t.Errorf("%d: Set(%v): %v, %v, not %v", i, codes, l, e, m)
			}
			if m, e := lig.Expand(f, codesOf(l)); e != api.OK || !slices.Equal(m, codes) {
				t.Errorf("%d: Expand of Set(%v): %v, %v", i, codes, m, e)
			}
			made += len(codes) - len(l)
		}
	}
	if made < 2000 {
		t.Errorf("only %d ligatures", made)
	}
}

// edge is a font, and whether its program may be.
type edge struct {
	name string
	font api.Font
	may  bool
}

// with is a font of all characters, with three kerns, of which one has just these steps, their Skips as they are.
func with(code int, l ...api.Step) api.Font {
	f := bare(0, 256)
	f.Kerns = []int{-3, 0, 4}
	f.Steps = l
	begin(&f, code, 0)
	return f
}

// changed is a font that is changed.
func changed(f api.Font, do func(f *api.Font)) api.Font {
	do(&f)
	return f
}

// skipped are steps of a at the places 0 and first+1, and so on, and others between them, that may not be; of as many steps as count says.
func skipped(count int, skips ...int) api.Font {
	f := with('a', slices.Repeat([]api.Step{step(0, 'b', 100, 0)}, count)...)
	at := 0
	for i, skip := range skips {
		f.Steps[at] = step(skip, 'b'+i, 128, i)
		at += skip + 1
	}
	return f
}

// skips are steps that lead to others, to the last one, and beyond it.
func skips() []edge {
	return []edge{
		{"no steps", bare(0, 256), true},
		{"no steps, kerns", changed(bare(33, 94), func(f *api.Font) { f.Kerns = []int{1} }), true},
		{"a Skip of 0 at the last", skipped(1, 0), false},
		{"a Skip of 1 at the last", skipped(1, 1), false},
		{"a Skip of 127 at the last", skipped(1, 127), false},
		{"a Skip of 128 at the last", skipped(1, 128), true},
		{"a Skip of 129 at the last", skipped(1, 129), true},
		{"a Skip of 255 at the last", skipped(1, 255), true},
		{"a Skip of 0, to the last", skipped(2, 0, 128), true},
		{"a Skip of 1, to the last", skipped(3, 1, 255), true},
		{"a Skip of 1, one beyond it", skipped(2, 1), false},
		{"a Skip of 0 at the last, behind a kern of 0", with('a', kerns(0, 0), kerns('b', 0)), false},
		{"a Skip of 0 at the last, behind a ligature of 0", with('a', makes(0, 200), kerns('b', 0)), false},
		{"a Skip of 126, to the last", skipped(128, 126, 128), true},
		{"a Skip of 127, to the last", skipped(129, 127, 128), true},
		{"a Skip of 127, one beyond it", skipped(128, 127), false},
		{"a Skip of 127, to the last but one", skipped(130, 127, 128), true},
		{"a Skip of 127, to the last but one, and farther", skipped(130, 127, 0, 128), true},
		{"Skips of 127 and 126, to the last of all", skipped(256, 127, 126, 128), true},
		{"Skips of 127 and 127, one beyond all", skipped(256, 127, 127), false},
		{"a Skip of 128, others behind", skipped(256, 128), true},
		{"a Skip of 255, others behind", skipped(256, 255), true},
		{"at the last of all", changed(with('a', slices.Repeat([]api.Step{step(128, 'b', 128, 0)}, 256)...), func(f *api.Font) { begin(f, 'a', 255) }), true},
		{"steps, but of no character", changed(skipped(3, 127), func(f *api.Font) { f.Chars['a'] = api.Char{Width: 1} }), true},
		{"of a character that is not there, beyond the last", changed(skipped(3, 127), func(f *api.Font) { f.Chars['a'].Width = 0 }), false},
		{"of the first character, beyond the last", with(0, step(0, 'b', 128, 0)), false},
		{"of the last character, beyond the last", with(255, step(0, 'b', 128, 0)), false},
	}
}

// ops are steps of all Ops, of kerns that are there or not.
func ops() []edge {
	var all []edge
	many := func(f *api.Font) { f.Kerns = make([]int, 256) }
	none := func(f *api.Font) { f.Kerns = nil }
	for op := range 256 {
		for rem := range 256 {
			if op > 2 && op < 126 && rem != op || op > 130 && op < 254 && rem != 0 {
				continue
			}
			f := with('a', step(128, 'b', op, rem))
			all = append(all,
				edge{"three kerns", f, op == 0 && rem > 127 || op == 128 && rem < 3},
				edge{"all kerns", changed(f, many), op == 0 && rem > 127 || op == 128},
				edge{"no kerns", changed(f, none), op == 0 && rem > 127},
				edge{"not the rule", with('a', step(0, 'b', 128, 1), step(128, 'b', op, rem)), op == 0 || op == 128 && rem < 3},
			)
		}
	}
	return append(all,
		edge{"an Op of 1 behind others", with('a', kerns('b', 0), kerns('c', 1), last(step(0, 'd', 1, 0))), false},
		edge{"an Op of 1 ahead of others", with('a', step(0, 'd', 1, 0), kerns('b', 0), last(kerns('c', 1))), false},
		edge{"an Op of 1 that nothing reaches", with('a', last(kerns('b', 0)), last(step(0, 'd', 1, 0))), true},
		edge{"a kern beyond that nothing reaches", with('a', last(kerns('b', 0)), last(kerns('d', 3))), true},
		edge{"an Op of 1 of a character that is not there", changed(with('a', step(128, 'b', 1, 0)), func(f *api.Font) { f.Chars['a'].Width = 0 }), false},
	)
}

// made are ligatures of all kinds of codes.
func made() []edge {
	var all []edge
	for _, first := range []int{0, 'a', 126, 127, 128, 129, 199, 200, 254, 255} {
		for n := range 256 {
			all = append(all, edge{"what is made", with(first, step(128, 'b', 0, n)), n > 127 && n > first})
		}
	}
	for n := range 256 {
		all = append(all,
			edge{"the second code of a ligature", with('a', step(128, n, 0, 200)), n < 128},
			edge{"the second code of a kern", with('a', step(128, n, 128, 0)), true},
			edge{"the second code of what is no rule", with('a', step(0, n, 128, 0), step(128, n, 0, 1)), true},
			edge{"what is made is not there", changed(with('a', step(128, 'b', 0, n)), func(f *api.Font) { f.Chars[n].Width = 0 }), false},
			edge{"one other is not there", changed(with('a', step(128, 'b', 0, 200)), func(f *api.Font) { f.Chars[n].Width = 0 }), n != 200},
			edge{"few characters", changed(bare(100, 60), func(f *api.Font) { program(f, 100, makes('i', n)) }), n >= 128 && n < 160},
			edge{"characters from 150 on", changed(bare(150, 60), func(f *api.Font) { program(f, 150, makes('i', n)) }), n > 150 && n < 210},
		)
	}
	return append(all,
		edge{"a width of 0", changed(with('a', step(128, 'b', 0, 200)), func(f *api.Font) { f.Widths[1] = 0 }), true},
		edge{"wrong, of a character that is not there", changed(with('a', step(128, 'b', 0, 'c')), func(f *api.Font) { f.Chars['a'].Width = 0 }), false},
		edge{"right, of one that is not there", changed(with('a', step(128, 'b', 0, 200)), func(f *api.Font) { f.Chars['a'].Width = 0 }), true},
	)
}

// twins are rules, two of which make one character, and such as look as if they did.
func twins() []edge {
	return []edge{
		{"one character's", with('a', makes('b', 200), last(makes('c', 200))), false},
		{"one character's, two", with('a', makes('b', 200), last(makes('c', 201))), true},
		{"one Next's, one", with('a', makes('b', 200), last(makes('b', 200))), true},
		{"one Next's, two", with('a', makes('b', 200), last(makes('b', 201))), true},
		{"one Next's, not the rule", with('a', makes('b', 200), last(makes('b', 7))), true},
		{"one Next's, far behind", with('a', makes('b', 200), kerns('c', 0), kerns('d', 0), last(makes('b', 7))), true},
		{"a kern ahead", with('a', kerns('b', 0), last(makes('b', 7))), true},
		{"a kern ahead, of another Next", with('a', kerns('c', 0), last(makes('b', 7))), false},
		{"a kern behind", with('a', makes('b', 7), last(kerns('b', 0))), false},
		{"no rule, and a rule of another Next, make one", with('a', makes('b', 200), makes('b', 201), last(makes('c', 201))), true},
		{"a rule, and none, make one", with('a', makes('c', 201), makes('b', 200), last(makes('b', 201))), true},
		{"two characters' ligature", changed(with('a', last(makes('b', 200))), func(f *api.Font) { begin(f, 'c', 0) }), false},
		{"two characters' kern", changed(with('a', last(kerns('b', 2))), func(f *api.Font) { begin(f, 'c', 0) }), true},
		{"two characters' ligature, one of them without it", changed(with('a', makes('b', 200), last(kerns('d', 2))), func(f *api.Font) { begin(f, 'c', 1) }), true},
		{"two characters' ligature, of one no rule", changed(with('a', kerns('b', 0), last(makes('b', 200))), func(f *api.Font) { begin(f, 'c', 1) }), true},
		{"two characters' ligature, wrong for one", changed(with('a', kerns('b', 0), last(makes('b', 200))), func(f *api.Font) { begin(f, 201, 1) }), false},
		{"two characters' own", with2(last(makes('b', 200)), last(makes('b', 200))), false},
		{"two characters' own, two", with2(last(makes('b', 200)), last(makes('b', 201))), true},
		{"two characters' own, a ligature's ligature", changed(with('a', last(makes('b', 200)), last(makes('b', 201))), func(f *api.Font) { begin(f, 200, 1) }), true},
		{"the most", full(), true},
		{"one more than the most", changed(full(), func(f *api.Font) { program(f, 'b', makes('a', 255)) }), false},
		{"all steps of all", crowd(), true},
		{"all steps of all, one a ligature", changed(crowd(), func(f *api.Font) { f.Steps[97] = makes('a', 255) }), false},
		{"all steps of all, one a ligature, of one alone", changed(crowd(), func(f *api.Font) {
			f.Steps[97] = makes('a', 255)
			for n := range 256 {
				begin(f, n, min(n, 98))
			}
			for n := range 97 {
				f.Chars[n].Tag, f.Chars[n].Rem = 0, 0
			}
		}), true},
	}
}

// with2 is a font of which two characters have a step each.
func with2(a, c api.Step) api.Font {
	f := with('a', a, c)
	begin(&f, 'c', 1)
	return f
}

// edges are all of these.
func edges() []edge { return slices.Concat(skips(), ops(), made(), twins()) }

// P8.1: the edges that the chapter names, and one beyond each.
func TestEdges(t *testing.T) {
	for i, x := range edges() {
		if lig.Check(x.font) != x.may || wordsOf(x.font).may != x.may {
			t.Errorf("%d, %s: %t: %v", i, x.name, !x.may, x.font.Steps)
		}
	}
}

// P8.2, P8.3: what they set, and expand, or that they do not.
func TestEdgesSet(t *testing.T) {
	for i, x := range edges() {
		if i%7 == 0 || len(x.font.Steps) > 1 {
			hold(t, x.font)
		}
		if x.may {
			continue
		}
		for _, codes := range [][]int{nil, {'a'}, {'a', 'b'}, {32}, {-1}} {
			if l, e := lig.Set(x.font, codes); len(l) != 0 || e != api.ErrTfm {
				t.Errorf("%s: Set(%v): %v, %v", x.name, codes, l, e)
			}
			if l, e := lig.Expand(x.font, codes); len(l) != 0 || e != api.ErrTfm {
				t.Errorf("%s: Expand(%v): %v, %v", x.name, codes, l, e)
			}
		}
	}
}

// P8.2: of a character's steps those that Skips lead to are the rules, up to one from 128 on.
func TestSkips(t *testing.T) {
	for i, x := range []struct {
		font api.Font
		want [3]int // the kerns of a behind which b, c and d come
	}{
		{skipped(1, 128), [3]int{-3, 0, 0}},
		{skipped(1, 255), [3]int{-3, 0, 0}},
		{skipped(3, 0, 0, 128), [3]int{-3, 5, 4}},
		{skipped(5, 1, 1, 128), [3]int{-3, 5, 4}},
		{skipped(3, 0, 128), [3]int{-3, 5, 0}},
		{skipped(256, 127, 126, 255), [3]int{-3, 5, 4}},
		{changed(skipped(256, 127, 126, 255), func(f *api.Font) { begin(f, 'a', 128) }), [3]int{0, 5, 4}},
		{changed(skipped(256, 127, 126, 255), func(f *api.Font) { begin(f, 'a', 255) }), [3]int{0, 0, 4}},
		{changed(skipped(130, 128, 0), func(f *api.Font) { f.Steps[1] = last(kerns('c', 1)) }), [3]int{-3, 0, 0}},
	} {
		x.font.Kerns = []int{-3, 5, 4}
		for n, kern := range x.want {
			codes := []int{'a', 'b' + n}
			if l, e := lig.Set(x.font, codes); e != api.OK || !slices.Equal(l, []api.Glyph{{Code: 'a', Kern: kern}, {Code: 'b' + n}}) {
				t.Errorf("%d: %v: %v, %v", i, codes, l, e)
			}
		}
	}
}

// P8.2, P8.3: of two steps with one Next the first one is the rule.
func TestFirstIsRule(t *testing.T) {
	for i, x := range []struct {
		font api.Font
		want []api.Glyph
	}{
		{with('a', makes('b', 200), last(makes('b', 201))), []api.Glyph{{Code: 200}}},
		{with('a', makes('b', 200), last(kerns('b', 0))), []api.Glyph{{Code: 200}}},
		{with('a', kerns('b', 2), last(makes('b', 201))), []api.Glyph{{Code: 'a', Kern: 4}, {Code: 'b'}}},
		{with('a', kerns('b', 1), last(kerns('b', 2))), []api.Glyph{{Code: 'a'}, {Code: 'b'}}},
		{with('a', kerns('c', 2), kerns('b', 0), last(kerns('b', 2))), []api.Glyph{{Code: 'a', Kern: -3}, {Code: 'b'}}},
	} {
		if l, e := lig.Set(x.font, []int{'a', 'b'}); e != api.OK || !slices.Equal(l, x.want) {
			t.Errorf("%d: %v, %v", i, l, e)
		}
		if l, e := lig.Expand(x.font, []int{201}); e != api.OK || !slices.Equal(l, []int{201}) {
			t.Errorf("%d: %v, %v", i, l, e)
		}
	}
}

// P8.2: the kern is that of its place, the first and the last one of all, too.
func TestKerns(t *testing.T) {
	for _, f := range []api.Font{crowd(), changed(crowd(), func(f *api.Font) { slices.Reverse(f.Kerns) })} {
		for n := 33; n < 127; n++ {
			if l, e := lig.Set(f, []int{'a', n}); e != api.OK || !slices.Equal(l, []api.Glyph{{Code: 'a', Kern: f.Kerns[n]}, {Code: n}}) {
				t.Errorf("%d: %v, %v", n, l, e)
			}
		}
	}
	f := changed(crowd(), func(f *api.Font) { f.Steps['b'].Rem, f.Steps['c'].Rem = 0, 255 })
	if l, e := lig.Set(f, []int{'a', 'b', 'c', 'd'}); e != api.OK || !slices.Equal(l, []api.Glyph{{Code: 'a', Kern: -100}, {Code: 'b', Kern: 155}, {Code: 'c', Kern: 0}, {Code: 'd'}}) {
		t.Errorf("%v, %v", l, e)
	}
}

// P8.2: codes of Least, of Last, one beyond each, and such as are not there, at any place of a list.
func TestCodes(t *testing.T) {
	ends := changed(bare(33, 94), func(f *api.Font) { f.Chars[0].Width, f.Chars[93].Width = 0, 0 })
	for _, f := range []api.Font{bare(0, 256), typical(), bare(33, 94), bare(34, 92), bare(0, 33), bare(127, 3), ends} {
		w := wordsOf(f)
		for code := -300; code < 600; code++ {
			want, e := []api.Glyph{{Code: code}}, api.OK
			if code < 33 || code > 126 || !there(f, code) {
				want, e = nil, api.ErrChar
			}
			if l, x := lig.Set(f, []int{code}); x != e || !slices.Equal(l, want) {
				t.Errorf("%d to %d: Set(%d): %v, %v", f.First, f.First+len(f.Chars)-1, code, l, x)
			}
			for _, l := range [][]int{{code, code}, {'a', code}, {code, 'a'}, {'a', 'b', code, 'b'}} {
				holdSet(t, w, l)
			}
		}
		for _, l := range odd() {
			holdSet(t, w, l)
		}
	}
	for code, has := range map[int]bool{32: false, 33: true, 34: true, 125: true, 126: true, 127: false, 128: false} {
		if _, e := lig.Set(bare(0, 256), []int{code}); (e == api.OK) != has || e != api.OK && e != api.ErrChar {
			t.Errorf("%d: %v", code, e)
		}
	}
}

// P8.2, P8.3: no codes are no glyphs, and no codes, if the program may be.
func TestNoCodes(t *testing.T) {
	for i, f := range append(fonts(), bare(200, 1)) {
		for _, none := range [][]int{nil, {}, make([]int, 0, 5)} {
			if l, e := lig.Set(f, none); len(l) != 0 || e != api.OK {
				t.Errorf("%d: Set: %v, %v", i, l, e)
			}
			if l, e := lig.Expand(f, none); len(l) != 0 || e != api.OK {
				t.Errorf("%d: Expand: %v, %v", i, l, e)
			}
		}
	}
}

// P8.3: codes that are made, codes that none makes, and any numbers whatever.
func TestExpand(t *testing.T) {
	for i, f := range fonts() {
		w := wordsOf(f)
		for _, l := range odd() {
			holdExpand(t, w, l)
		}
		var all []int
		for code := -40; code < 300; code++ {
			holdExpand(t, w, []int{code})
			all = append(all, code)
		}
		holdExpand(t, w, all)
		if l, e := lig.Expand(f, []int{math.MinInt, -1, 256, math.MaxInt, 'f', 'i'}); e != api.OK || !slices.Equal(l, []int{math.MinInt, -1, 256, math.MaxInt, 'f', 'i'}) {
			t.Errorf("%d: %v, %v", i, l, e)
		}
	}
	for code, want := range map[int][]int{127: {127}, 128: {'z', 'a'}, 129: {'z', 'a', 'a'}, 255: append([]int{'z'}, slices.Repeat([]int{'a'}, 128)...)} {
		if l, e := lig.Expand(full(), []int{code}); e != api.OK || !slices.Equal(l, want) {
			t.Errorf("%d: %v, %v", code, l, e)
		}
	}
}

// P8.3: what is no rule makes nothing; what a rule makes is made of codes that need not be there.
func TestExpandRules(t *testing.T) {
	f := with('a', makes('b', 200), makes('b', 201), last(makes('c', 202)), last(makes('d', 203)))
	f.Chars['a'].Width, f.Chars['b'].Width = 0, 0
	if l, e := lig.Expand(f, []int{203, 202, 201, 200}); e != api.OK || !slices.Equal(l, []int{203, 'a', 'c', 201, 'a', 'b'}) {
		t.Errorf("%v, %v", l, e)
	}
	f = bare(200, 40)
	program(&f, 200, makes(0, 210))
	program(&f, 210, makes(127, 239))
	if l, e := lig.Expand(f, []int{239, 210, 200, 127, 0}); e != api.OK || !slices.Equal(l, []int{200, 0, 127, 200, 0, 200, 127, 0}) {
		t.Errorf("%v, %v", l, e)
	}
}

// P8.2, P8.3, P8.4: the ligature of the most codes, and long lists.
func TestLong(t *testing.T) {
	codes := append([]int{'z'}, slices.Repeat([]int{'a'}, 130)...)
	l, e := lig.Set(full(), codes)
	if e != api.OK || !slices.Equal(codesOf(l), []int{255, 'a', 'a'}) {
		t.Errorf("%v, %v", l, e)
	}
	for _, f := range []api.Font{full(), typical(), crowd()} {
		var codes []int
		for _, l := range texts(f, 3000) {
			codes = append(codes, l...)
		}
		l, e := lig.Set(f, codes)
		m, x := wordsOf(f).set(codes)
		if e != api.OK || x != api.OK || !slices.Equal(l, m) {
			t.Errorf("%v, %v", e, x)
		}
		if m, e := lig.Expand(f, codesOf(l)); e != api.OK || !slices.Equal(m, codes) {
			t.Errorf("%v", e)
		}
	}
}

// P8.1: each number of a program, and of its characters, as great and as little as there are, in fonts that may be.
func TestEveryNumber(t *testing.T) {
	may, not := 0, 0
	for _, f := range append(some(12), plain(), typical()) {
		g := copied(f)
		var all []*int
		for i := range g.Steps {
			s := &g.Steps[i]
			all = append(all, &s.Skip, &s.Next, &s.Op, &s.Rem)
		}
		for i := range g.Chars {
			if c := &g.Chars[i]; c.Tag == 1 || i%20 == 0 {
				all = append(all, &c.Width, &c.Tag, &c.Rem)
			}
		}
		for _, n := range append(all, &g.First) {
			was := *n
			for _, x := range []int{math.MinInt, -1, 0, 1, 2, was - 1, was + 1, 'a', 'b', 33, 126, 127, 128, 129, 131, 200, 254, 255, 256, 1 << 32, was + 1<<32, math.MaxInt} {
				*n = x
				want := wordsOf(g).may
				if lig.Check(g) != want {
					t.Errorf("Check(%v): %t", g, !want)
				}
				if want {
					may++
				} else {
					not++
				}
			}
			*n = was
		}
	}
	if may < 3000 || not < 3000 {
		t.Errorf("%d may be, %d not", may, not)
	}
}

// P8.1, P8.2, P8.3: programs of any steps.
func TestNoise(t *testing.T) {
	source := rand.New(rand.NewSource(888))
	may := 0
	for range 4000 {
		f := bare(source.Intn(60), 196)
		f.Kerns = make([]int, source.Intn(3))
		for range 1 + source.Intn(8) {
			f.Steps = append(f.Steps, step(source.Intn(2)*128+source.Intn(2), 'a'+source.Intn(4), source.Intn(2)*128, source.Intn(2)*150+source.Intn(50)))
		}
		for range source.Intn(3) {
			begin(&f, []int{'a', 'b', 'c', 150, 160, 170}[source.Intn(6)], source.Intn(len(f.Steps)))
		}
		if hold(t, f) {
			may++
		}
	}
	if may < 800 || may > 3200 {
		t.Errorf("%d may be", may)
	}
}

// P8.1, P8.2, P8.3: fonts that may not be, by what layer 7 asks.
func TestWrongFonts(t *testing.T) {
	for i, do := range []func(f *api.Font){
		func(f *api.Font) { *f = api.Font{} },
		func(f *api.Font) { f.Sum = -1 },
		func(f *api.Font) { f.Design = 0 },
		func(f *api.Font) { f.First = math.MaxInt },
		func(f *api.Font) { f.First = math.MinInt },
		func(f *api.Font) { f.First = 255 },
		func(f *api.Font) { f.Chars = nil },
		func(f *api.Font) { f.Chars[3].Tag = 2 },
		func(f *api.Font) { f.Chars[3].Rem = 1 },
		func(f *api.Font) { begin(f, 'a', len(f.Steps)) },
		func(f *api.Font) { begin(f, 'a', -1) },
		func(f *api.Font) { f.Steps[0].Skip = -1 },
		func(f *api.Font) { f.Steps[0].Skip = 256 },
		func(f *api.Font) { f.Steps[0].Next = -1 },
		func(f *api.Font) { f.Steps[0].Next = 256 },
		func(f *api.Font) { f.Steps[0].Op = 256 },
		func(f *api.Font) { f.Steps[0].Rem = -1 },
		func(f *api.Font) { f.Steps[0].Rem = 256 },
		func(f *api.Font) { f.Steps[len(f.Steps)-1].Op = -1 },
		func(f *api.Font) { f.Steps = nil },
		func(f *api.Font) { f.Kerns[1] = 1 << 24 },
		func(f *api.Font) { f.Kerns = make([]int, 257) },
		func(f *api.Font) { f.Widths[0] = 1 },
		func(f *api.Font) { f.Params = make([]int, 31) },
	} {
		f := copied(typical())
		do(&f)
		if hold(t, f) {
			t.Errorf("%d may be", i)
		}
		for _, codes := range append(odd(), nil, []int{'x'}) {
			if l, e := lig.Set(f, codes); len(l) != 0 || e != api.ErrTfm {
				t.Errorf("%d: Set(%v): %v, %v", i, codes, l, e)
			}
			if l, e := lig.Expand(f, codes); len(l) != 0 || e != api.ErrTfm {
				t.Errorf("%d: Expand(%v): %v, %v", i, codes, l, e)
			}
		}
	}
}

// roomy is a font, and roomyCodes codes, with spare room behind all lists, in which there are numbers that may not be.
func roomy(f api.Font) api.Font {
	f.Chars = append(slices.Clone(f.Chars), api.Char{Width: -9}, api.Char{Tag: 9})[:len(f.Chars)]
	f.Steps = append(slices.Clone(f.Steps), step(-9, -9, -9, -9), step(300, 300, 300, 300))[:len(f.Steps)]
	for _, l := range lists(&f) {
		*l = roomyCodes(*l)
	}
	return f
}

func roomyCodes(l []int) []int { return append(slices.Clone(l), 1<<50, -1<<50, 7)[:len(l)] }

// stretched is a font whose lists go up to the ends of their spare room.
func stretched(f api.Font) api.Font {
	f.Chars, f.Steps = f.Chars[:cap(f.Chars)], f.Steps[:cap(f.Steps)]
	for _, l := range lists(&f) {
		*l = (*l)[:cap(*l)]
	}
	return f
}

// wipe sets a font to other numbers, its lists' spare room, too.
func wipe(f api.Font) {
	f = stretched(f)
	clear(f.Chars)
	clear(f.Steps)
	for _, l := range lists(&f) {
		turn(*l)
	}
}

// turn sets numbers, and the spare room behind them, to others.
func turn(l []int) {
	l = l[:cap(l)]
	for i := range l {
		l[i] ^= 1 << 40
	}
}

// R4, for P8.1, P8.2 and P8.3: what is handed in stays as it is, its spare room too, whether there is an error or not.
func TestHandedInStays(t *testing.T) {
	all := fonts()
	for _, x := range slices.Concat(skips(), twins()) {
		all = append(all, x.font)
	}
	for i, f := range all {
		g := roomy(f)
		was := copied(stretched(g))
		for _, codes := range append(texts(f, 20), []int{'f', 32}, []int{128, 200, 255}) {
			l := roomyCodes(codes)
			kept := slices.Clone(l[:cap(l)])
			lig.Check(g)
			lig.Set(g, l)
			lig.Expand(g, l)
			if !slices.Equal(l[:cap(l)], kept) {
				t.Errorf("%d: %v are changed", i, codes)
			}
		}
		if !same(stretched(g), was) || !same(f, g) {
			t.Errorf("%d is changed", i)
		}
	}
}

// R4, for P8.2 and P8.3: a change of an answer, or of its spare room, changes neither what was handed in nor another answer; a change of what was handed in changes no answer.
func TestMemory(t *testing.T) {
	for i, f := range fonts() {
		w := wordsOf(f)
		for _, codes := range append(texts(f, 10), slices.Repeat([]int{'x'}, 40)) {
			want, e := w.set(codes)
			if e != api.OK {
				continue
			}
			g, l := roomy(f), roomyCodes(codes)
			a, _ := lig.Set(g, l)
			b, _ := lig.Set(g, l)
			clear(b[:cap(b)])
			glyphs := roomyCodes(codesOf(a))
			x, _ := lig.Expand(g, glyphs)
			y, _ := lig.Expand(g, glyphs)
			turn(y)
			if !slices.Equal(glyphs, codesOf(want)) || !slices.Equal(l, codes) || !same(f, g) {
				t.Errorf("%d, %v: what was handed in is changed", i, codes)
			}
			wipe(g)
			turn(l)
			turn(glyphs)
			if !slices.Equal(a, want) || !slices.Equal(x, codes) {
				t.Errorf("%d, %v: an answer is changed", i, codes)
			}
		}
	}
}

// R4, for P8.1, P8.2 and P8.3: lists without elements may be nil or not.
func TestNil(t *testing.T) {
	f, g := bare(33, 94), bare(33, 94)
	f.Steps, f.Kerns, f.Params = nil, nil, nil
	g.Steps, g.Kerns, g.Params = []api.Step{}, []int{}, make([]int, 0, 9)
	a, e := lig.Set(f, []int{'a', 'b'})
	b, x := lig.Set(g, []int{'a', 'b'})
	if !slices.Equal(a, b) || e != api.OK || x != api.OK || !lig.Check(f) || !lig.Check(g) {
		t.Errorf("%v, %v: %v, %v", a, b, e, x)
	}
}

// R5, for P8.1, P8.2 and P8.3: answers hang on what is handed in alone, not on what was asked ahead of it, or is asked at once.
func TestAtOnce(t *testing.T) {
	l := append(fonts(), api.Font{})
	for _, x := range slices.Concat(skips(), twins()) {
		l = append(l, x.font)
	}
	var all sync.WaitGroup
	for n := range 8 {
		all.Go(func() {
			for i := range len(l) {
				hold(t, l[(i*(2*n+1)+n)%len(l)])
			}
		})
	}
	all.Wait()
}
