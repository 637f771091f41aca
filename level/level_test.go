package level_test

import (
	"math"
	"math/rand"
	"slices"
	"sync"
	"testing"

	"compositor/api"
	"compositor/level"
	"compositor/lig"
	"compositor/tfm"
)

// holdWidth, holdKern and holdEdges hold a call against the chapter's words, of a face of which it is known whether it may be.
func holdWidth(t *testing.T, f api.Face, may bool, code, at int) {
	t.Helper()
	w, e := level.Width(f, code, at)
	if v, x := widthOf(f, may, code, at); w != v || e != x {
		t.Errorf("Width(%v, %d, %d): %d, %v, not %d, %v", f, code, at, w, e, v, x)
	}
}

func holdKern(t *testing.T, f api.Face, may bool, fix, at int) {
	t.Helper()
	k, e := level.Kern(f, fix, at)
	if n, x := kernOf(f, may, fix, at); k != n || e != x {
		t.Errorf("Kern(%v, %d, %d): %d, %v, not %d, %v", f, fix, at, k, e, n, x)
	}
}

func holdEdges(t *testing.T, f api.Face, may bool, code, at int) {
	t.Helper()
	l, r, e := level.Edges(f, code, at)
	if m, s, x := edgesOf(f, may, code, at); l != m || r != s || e != x {
		t.Errorf("Edges(%v, %d, %d): %d, %d, %v, not %d, %d, %v", f, code, at, l, r, e, m, s, x)
	}
}

// hold holds all calls against the chapter's words, of some codes, fixes and levels, and tells whether the face may be.
func hold(t *testing.T, f api.Face) bool {
	t.Helper()
	may := mayBe(f)
	if level.Check(f) != may {
		t.Errorf("Check(%v): %t", f, !may)
	}
	end := f.Font.First + len(f.Font.Chars)
	for _, at := range []int{math.MinInt, -9, -f.Down - 1, -f.Down, -1, 0, 1, f.Up, f.Up + 1, 9, math.MaxInt} {
		if n := level.Clamp(f, at); n != clamp(f, at) {
			t.Errorf("Clamp(%v, %d): %d, not %d", f, at, n, clamp(f, at))
		}
		for _, code := range []int{-1, f.Font.First - 1, f.Font.First, f.Font.First + 2, end - 1, end} {
			holdWidth(t, f, may, code, at)
			holdEdges(t, f, may, code, at)
		}
		for _, fix := range []int{-1<<24 - 1, -7, 0, 27779, 1 << 24} {
			holdKern(t, f, may, fix, at)
		}
	}
	return may
}

// P9.1, P9.2: the chapter's example.
func TestExample(t *testing.T) {
	if n, e := level.Width(example(), 'a', 5); n != 1<<20+41943 || e != api.OK {
		t.Errorf("%d, %v", n, e)
	}
	if !level.Check(example()) || level.Clamp(example(), 5) != 2 {
		t.Errorf("%t, %d", level.Check(example()), level.Clamp(example(), 5))
	}
}

// P9.1, P9.2, P9.3: faces of all kinds may be, and all that the calls answer of them is what the chapter's words ask.
func TestFaces(t *testing.T) {
	for i, f := range append(faces(), some(200)...) {
		if !hold(t, f) {
			t.Errorf("%d may not be", i)
		}
	}
}

// P9.2, P9.3: all characters, and codes of which there are none, at all levels.
func TestCharacters(t *testing.T) {
	for _, f := range append(some(6), example(), plain(), quiet()) {
		for _, at := range levels(f) {
			for _, code := range codes(f.Font) {
				holdWidth(t, f, true, code, at)
				holdEdges(t, f, true, code, at)
			}
		}
	}
	f := full()
	for _, at := range []int{-9, -8, -7, -1, 0, 1, 7, 8, 9} {
		for _, code := range codes(f.Font) {
			holdWidth(t, f, true, code, at)
			holdEdges(t, f, true, code, at)
		}
	}
}

// P9.2: fixes of all sizes, and numbers that are none, at all levels.
func TestKerns(t *testing.T) {
	for _, f := range append(some(12), example(), plain(), quiet()) {
		for _, at := range levels(f) {
			for _, fix := range fixes() {
				holdKern(t, f, true, fix, at)
			}
		}
	}
	for _, fix := range fixes() {
		holdKern(t, full(), true, fix, 8)
		holdKern(t, full(), true, fix, -8)
	}
}

// P9.2: widths at levels, written out; 2^20 points an em, so that a fix is one.
func TestWidthWrittenOut(t *testing.T) {
	for i, x := range []struct{ fix, size, step, stretch, at, want int }{
		{1001, 1 << 20, 50, 1000, 0, 1001},
		{1001, 1 << 20, 50, 1000, 1, 1001 + 50},  // 50.05
		{1001, 1 << 20, 50, 1000, -1, 1001 - 51}, // below -50.05
		{1001, 1 << 20, 50, 1000, 8, 1001 + 400},
		{1001, 1 << 20, 50, 1000, 9, 1001 + 400}, // no such level
		{1001, 1 << 20, 50, 1000, -8, 1001 - 401},
		{1001, 1 << 20, 50, 1000, -9, 1001 - 401},
		{1001, 1 << 20, 50, 500, 1, 1001 + 25},
		{1001, 1 << 20, 50, 500, -1, 1001 - 26},
		{1001, 1 << 20, 50, 500, 3, 1001 + 75}, // all levels at once: 75.075
		{1001, 1 << 20, 50, 0, 8, 1001},
		{1001, 1 << 20, 50, 0, -8, 1001},
		{1001, 1 << 20, 50, 1, 8, 1001},      // 0.4004
		{1001, 1 << 20, 50, 1, -8, 1001 - 1}, // floored
		{1001, 1 << 20, 0, 1000, 8, 1001},
		{1001, 1 << 20, 1, 999, 1, 1001}, // 0.999999
		{1001, 1 << 20, 1, 1000, 1, 1001 + 1},
		{-1001, 1 << 20, 50, 1000, 0, -1001},
		{-1001, 1 << 20, 50, 1000, 1, -1001 - 51},
		{-1001, 1 << 20, 50, 1000, -1, -1001 + 50},
		{-1001, 1 << 20, 50, 1, 8, -1001 - 1},
		{-1001, 1 << 20, 50, 1, -8, -1001},
		{0, 1 << 20, 50, 1000, 8, 0},
		{0, 1 << 20, 50, 1000, -8, 0},
		{1, 1 << 20, 50, 1000, 8, 1},
		{1, 1 << 20, 50, 1000, -8, 0},
		{-1, 1 << 20, 50, 1000, 8, -2},
		{1001, 1 << 16, 50, 1000, 0, 62},       // 62.5
		{1001, 1 << 16, 50, 1000, 1, 62 + 3},   // of the points: 3.1
		{-1001, 1 << 16, 50, 1000, 0, -63},     // floored
		{-1001, 1 << 16, 50, 1000, 1, -63 - 4}, // of the points: -3.15
		{15, 1 << 16, 50, 1000, 8, 0},
		{-1, 1 << 16, 50, 1000, 0, -1},
		{1<<24 - 1, 1 << 22, 50, 1000, 8, 1<<26 - 4 + 26843544},
		{-1 << 24, 1 << 22, 50, 1000, 8, -1<<26 - 26843546},
		{-1 << 24, 1 << 22, 50, 1000, -8, -1<<26 + 26843545},
		{1<<24 - 1, 1<<22 - 1, 50, 0, 8, 1<<26 - 4 - 16},
	} {
		f := face(bare(33, x.fix), x.step, 8, 8, trait(33, x.stretch, 0, 0))
		f.Size = x.size
		if n, e := level.Width(f, 33, x.at); n != x.want || e != api.OK {
			t.Errorf("%d: %d, %v, not %d", i, n, e, x.want)
		}
		if f.Traits = nil; x.stretch == 1000 {
			if n, e := level.Width(f, 33, x.at); n != x.want || e != api.OK {
				t.Errorf("%d, without a trait: %d, %v, not %d", i, n, e, x.want)
			}
			if n, e := level.Kern(f, x.fix, x.at); n != x.want || e != api.OK {
				t.Errorf("%d, a kern: %d, %v, not %d", i, n, e, x.want)
			}
		}
	}
}

// P9.2, P9.3: a trait is of its code alone, of the first and the last character, too; a character without one goes along whole, and stands out nowhere.
func TestTraits(t *testing.T) {
	f := face(bare(65, 1000, 1000, 1000, 1000), 50, 2, 2, trait(64, 1, 1, 1), trait(65, 500, 100, 200), trait(67, 0, -300, 0), trait(68, 1000, 0, -1000), trait(69, 7, 7, 7), trait(255, 9, 9, 9))
	f.Font.Chars = f.Font.Chars[:4]
	for i, x := range []struct {
		code, width, left, right int
		e                        api.Errno
	}{
		{64, 0, 0, 0, api.ErrChar}, // a trait, but no character
		{65, 1050, 105, 210, api.OK},
		{66, 1100, 0, 0, api.OK},
		{67, 1000, -300, 0, api.OK},
		{68, 1100, 0, -1100, api.OK},
		{69, 0, 0, 0, api.ErrChar},
		{255, 0, 0, 0, api.ErrChar},
	} {
		if n, e := level.Width(f, x.code, 2); n != x.width || e != x.e {
			t.Errorf("%d: %d, %v", i, n, e)
		}
		if l, r, e := level.Edges(f, x.code, 2); l != x.left || r != x.right || e != x.e {
			t.Errorf("%d: %d, %d, %v", i, l, r, e)
		}
	}
	f.Traits = f.Traits[:0]
	for code := 65; code < 69; code++ {
		if n, e := level.Width(f, code, -2); n != 900 || e != api.OK {
			t.Errorf("%d: %d, %v", code, n, e)
		}
		if l, r, e := level.Edges(f, code, -2); l != 0 || r != 0 || e != api.OK {
			t.Errorf("%d: %d, %d, %v", code, l, r, e)
		}
	}
}

// P9.2, P9.3: the traits of 0 and of 255, whose characters are there.
func TestTraitsAtEnds(t *testing.T) {
	f := face(bare(0, slices.Repeat([]int{1000}, 255)...), 50, 2, 2, trait(0, 500, 10, 20), trait(255, 0, -30, 40))
	f.Font.Chars[255].Width = 1
	for code, want := range map[int][3]int{0: {1050, 10, 21}, 1: {1100, 0, 0}, 254: {1100, 0, 0}, 255: {1000, -30, 40}} {
		n, e := level.Width(f, code, 2)
		l, r, x := level.Edges(f, code, 2)
		if [3]int{n, l, r} != want || e != api.OK || x != api.OK {
			t.Errorf("%d: %d, %d, %d, %v, %v", code, n, l, r, e, x)
		}
	}
}

// P9.3: what stands out, written out: floored, and of the width at the level.
func TestEdgesWrittenOut(t *testing.T) {
	for i, x := range []struct{ fix, part, at, want int }{
		{1001, 0, 0, 0},
		{1001, 0, 2, 0},
		{1001, 1000, 0, 1001},
		{1001, -1000, 0, -1001},
		{1001, 1, 0, 1},       // 1.001
		{1001, -1, 0, -2},     // -1.001
		{1001, 70, 0, 70},     // 70.07
		{1001, -70, 0, -71},   // -70.07
		{1001, 70, 2, 77},     // of 1101: 77.07
		{1001, 1000, 2, 1101}, // all of that
		{1001, 1000, 3, 1101}, // no such level
		{1001, 1000, -2, 900},
		{1001, 1000, -3, 900},
		{1001, -70, -2, -63},
		{-1001, 70, 0, -71},
		{-1001, -70, 0, 70},
		{-1001, 1000, 2, -1102},
		{-1001, -1000, -2, 901},
		{0, 1000, 2, 0},
		{0, -1000, -2, 0},
		{9, 100, 0, 0},
		{9, -100, 0, -1},
		{-9, 100, 0, -1},
		{1<<24 - 1, 1000, 0, 1<<24 - 1},
		{-1 << 24, 1000, 0, -1 << 24},
		{-1 << 24, -1000, 0, 1 << 24},
	} {
		for _, other := range []int{0, 500, -1000} {
			f := face(bare(33, x.fix), 50, 2, 2, trait(33, 1000, x.part, other))
			if l, _, e := level.Edges(f, 33, x.at); l != x.want || e != api.OK {
				t.Errorf("%d, left: %d, %v, not %d", i, l, e, x.want)
			}
			f.Traits[0].Left, f.Traits[0].Right = other, x.part
			if _, r, e := level.Edges(f, 33, x.at); r != x.want || e != api.OK {
				t.Errorf("%d, right: %d, %v, not %d", i, r, e, x.want)
			}
		}
	}
}

// a change of a face, and whether it may be then.
type change struct {
	name string
	do   func(f *api.Face)
	may  bool
}

// numbers are changes of the numbers that stand alone: both ends, and one beyond each, and far beyond.
func numbers() []change {
	var all []change
	for _, x := range []struct {
		name      string
		of        func(f *api.Face) *int
		low, high int
	}{
		{"Size", func(f *api.Face) *int { return &f.Size }, 1 << 16, 1 << 22},
		{"Step", func(f *api.Face) *int { return &f.Step }, 0, 50},
		{"Up", func(f *api.Face) *int { return &f.Up }, 0, 8},
		{"Down", func(f *api.Face) *int { return &f.Down }, 0, 8},
		{"Stretch", func(f *api.Face) *int { return &f.Traits[1].Stretch }, 0, 1000},
		{"Left", func(f *api.Face) *int { return &f.Traits[1].Left }, -1000, 1000},
		{"Right", func(f *api.Face) *int { return &f.Traits[1].Right }, -1000, 1000},
		{"the first one's Stretch", func(f *api.Face) *int { return &f.Traits[0].Stretch }, 0, 1000},
		{"the last one's Stretch", func(f *api.Face) *int { return &f.Traits[len(f.Traits)-1].Stretch }, 0, 1000},
		{"the first one's Left", func(f *api.Face) *int { return &f.Traits[0].Left }, -1000, 1000},
		{"the last one's Right", func(f *api.Face) *int { return &f.Traits[len(f.Traits)-1].Right }, -1000, 1000},
		{"the first one's Code", func(f *api.Face) *int { return &f.Traits[0].Code }, 0, 66},
		{"the second one's Code", func(f *api.Face) *int { return &f.Traits[1].Code }, 66, 67},
		{"the last one's Code", func(f *api.Face) *int { return &f.Traits[len(f.Traits)-1].Code }, 71, 255},
	} {
		for _, n := range []int{x.low, x.low + 1, x.high - 1, x.high, x.low - 1, x.high + 1, x.high + 1<<32, x.low - 1<<32, math.MinInt, math.MaxInt} {
			all = append(all, change{x.name, func(f *api.Face) { *x.of(f) = n }, n >= x.low && n <= x.high})
		}
	}
	return all
}

// traits are changes of a face's traits, as a whole.
func traits() []change {
	to := func(name string, may bool, l ...api.Trait) change {
		return change{name, func(f *api.Face) { f.Traits = l }, may}
	}
	of := func(codes ...int) []api.Trait {
		var l []api.Trait
		for _, code := range codes {
			l = append(l, trait(code, 1000, 0, 0))
		}
		return l
	}
	var all []int
	for code := range 256 {
		all = append(all, code)
	}
	falling := slices.Clone(all)
	slices.Reverse(falling)
	return []change{
		to("none", true),
		to("none, not nil", true, make([]api.Trait, 0, 3)...),
		to("0", true, of(0)...),
		to("255", true, of(255)...),
		to("-1", false, of(-1)...),
		to("256", false, of(256)...),
		to("0 and 255", true, of(0, 255)...),
		to("-1 and 0", false, of(-1, 0)...),
		to("255 and 256", false, of(255, 256)...),
		to("two that rise by one", true, of(7, 8)...),
		to("two that are one", false, of(7, 7)...),
		to("two that are 0", false, of(0, 0)...),
		to("two that are 255", false, of(255, 255)...),
		to("two that fall", false, of(8, 7)...),
		to("255 and 0", false, of(255, 0)...),
		to("the last two are one", false, of(1, 2, 3, 3)...),
		to("the last two fall", false, of(1, 2, 4, 3)...),
		to("the midst falls", false, of(1, 5, 2, 6)...),
		to("the first and the last are one", false, of(1, 5, 1)...),
		to("all codes", true, of(all...)...),
		to("all codes, falling", false, of(falling...)...),
		to("all codes, and one more", false, of(append(all, 256)...)...),
		to("all codes, and the last one again", false, of(append(all, 255)...)...),
		to("all codes, twice", false, of(append(all, all...)...)...),
		to("of codes of no character", true, of(0, 1, 2, 254, 255)...),
		to("all numbers at their least", true, trait(0, 0, -1000, -1000)),
		to("all numbers at their most", true, trait(255, 1000, 1000, 1000)),
		to("an empty one", true, api.Trait{}),
		to("two empty ones", false, api.Trait{}, api.Trait{}),
	}
}

// fonts are changes of a face's font: of its program, and of what layer 7 asks.
func fonts() []change {
	return []change{
		{"as it is", func(f *api.Face) {}, true},
		{"an Op of 1", func(f *api.Face) { f.Font.Steps[0].Op = 1 }, false},
		{"a kern that is not there", func(f *api.Face) { f.Font.Steps[1].Rem = 3 }, false},
		{"no step behind the last", func(f *api.Face) { f.Font.Steps[1].Skip = 127 }, false},
		{"a ligature below Made", func(f *api.Face) { f.Font.Steps[0].Op, f.Font.Steps[0].Rem = 0, 66 }, false},
		{"no kerns", func(f *api.Face) { f.Font.Kerns = nil }, false},
		{"a program that nothing reaches", func(f *api.Face) { f.Font.Chars[0].Tag, f.Font.Steps[0].Op = 0, 1 }, true},
		{"a Design that may not be", func(f *api.Face) { f.Font.Design = 0 }, false},
		{"another Design", func(f *api.Face) { f.Font.Design = 1<<31 - 1 }, true},
		{"another Sum", func(f *api.Face) { f.Font.Sum = 1<<32 - 1 }, true},
		{"a Tag that may not be", func(f *api.Face) { f.Font.Chars[2].Tag = 2 }, false},
		{"a First of 256", func(f *api.Face) { f.Font.First = 256 }, false},
		{"a First of -1", func(f *api.Face) { f.Font.First = -1 }, false},
		{"a First of any size", func(f *api.Face) { f.Font.First = math.MaxInt }, false},
		{"another First", func(f *api.Face) { f.Font.First = 0 }, true},
		{"no characters", func(f *api.Face) { f.Font.Chars = nil }, false},
		{"a width that is none", func(f *api.Face) { f.Font.Widths[3] = 1 << 24 }, false},
		{"a place that is none", func(f *api.Face) { f.Font.Chars[1].Width = len(f.Font.Widths) }, false},
		{"a place below 0", func(f *api.Face) { f.Font.Chars[1].Width = -1 }, false},
		{"an empty one", func(f *api.Face) { f.Font = api.Font{} }, false},
		{"nothing at all", func(f *api.Face) { *f = api.Face{} }, false},
	}
}

// changes are all of these.
func changes() []change { return slices.Concat(numbers(), traits(), fonts()) }

// P9.1: the edges that the chapter names, and one beyond each; what of the face is another then, and that Clamp is 0 of one that may not be.
func TestEdges(t *testing.T) {
	for i, x := range changes() {
		f := copied(plain())
		x.do(&f)
		if level.Check(f) != x.may || hold(t, f) != x.may {
			t.Errorf("%d, %s: %t: %v", i, x.name, !x.may, f)
		}
		if x.may {
			continue
		}
		for _, at := range levels(f) {
			if n := level.Clamp(f, at); n != 0 {
				t.Errorf("%s: Clamp(%d): %d", x.name, at, n)
			}
		}
	}
	f := plain()
	f.Font.Steps = slices.Clone(f.Font.Steps)
	if f.Font.Steps[0].Op = 1; !tfm.Check(f.Font) || lig.Check(f.Font) || level.Check(f) {
		t.Error("the font may be, the program may not, nor may the face")
	}
}

// P9.2, P9.3: of a face that may not be there is ErrFace, of whatever codes, fixes and levels, and 0 beside it.
func TestWrongFaces(t *testing.T) {
	for i, x := range changes() {
		f := copied(plain())
		if x.do(&f); x.may {
			continue
		}
		for _, at := range []int{math.MinInt, -2, 0, 2, math.MaxInt} {
			for _, code := range []int{math.MinInt, -1, 0, 64, 65, 66, 68, 73, 74, 255, 256, math.MaxInt} {
				if n, e := level.Width(f, code, at); n != 0 || e != api.ErrFace {
					t.Errorf("%d, %s: Width(%d, %d): %d, %v", i, x.name, code, at, n, e)
				}
				if l, r, e := level.Edges(f, code, at); l != 0 || r != 0 || e != api.ErrFace {
					t.Errorf("%d, %s: Edges(%d, %d): %d, %d, %v", i, x.name, code, at, l, r, e)
				}
			}
			for _, fix := range []int{math.MinInt, -1<<24 - 1, -5, 0, 5, 1 << 24, math.MaxInt} {
				if n, e := level.Kern(f, fix, at); n != 0 || e != api.ErrFace {
					t.Errorf("%d, %s: Kern(%d, %d): %d, %v", i, x.name, fix, at, n, e)
				}
			}
		}
	}
}

// P9.2, P9.3: of a character that is not there there is ErrChar, and 0 beside it, at all levels.
func TestWrongCharacters(t *testing.T) {
	for _, f := range append(some(5), plain(), example(), quiet()) {
		first, end := f.Font.First, f.Font.First+len(f.Font.Chars)
		wrong := []int{math.MinInt, first - 1<<32, first - 256, -1, first - 1, end, end + 1, first + 256, first + 1<<32, math.MaxInt}
		for i, c := range f.Font.Chars {
			if c.Width == 0 {
				wrong = append(wrong, first+i)
			}
		}
		for _, at := range []int{math.MinInt, -f.Down, 0, f.Up, math.MaxInt} {
			for _, code := range wrong {
				if n, e := level.Width(f, code, at); n != 0 || e != api.ErrChar {
					t.Errorf("Width(%v, %d, %d): %d, %v", f, code, at, n, e)
				}
				if l, r, e := level.Edges(f, code, at); l != 0 || r != 0 || e != api.ErrChar {
					t.Errorf("Edges(%v, %d, %d): %d, %d, %v", f, code, at, l, r, e)
				}
			}
		}
	}
	for code, e := range map[int]api.Errno{64: api.ErrChar, 65: api.OK, 66: api.OK, 67: api.OK, 68: api.ErrChar, 69: api.OK, 72: api.OK, 73: api.ErrChar, 74: api.ErrChar} {
		if _, x := level.Width(plain(), code, 1); x != e {
			t.Errorf("%d: %v", code, x)
		}
	}
}

// P9.2: both ends of fixes, and one beyond each, at all levels.
func TestKernEnds(t *testing.T) {
	for _, f := range append(some(5), plain(), quiet(), full()) {
		for _, at := range []int{math.MinInt, -1, 0, 1, math.MaxInt} {
			for fix, may := range map[int]bool{-1<<24 - 1: false, -1 << 24: true, 1<<24 - 1: true, 1 << 24: false, math.MinInt: false, math.MaxInt: false, 1 << 40: false} {
				n, e := level.Kern(f, fix, at)
				if may != (e == api.OK) || !may && (n != 0 || e != api.ErrFace) || may && (n < 0) != (fix < 0) {
					t.Errorf("Kern(%v, %d, %d): %d, %v", f, fix, at, n, e)
				}
			}
		}
	}
}

// P9.2: a kern goes along whole, whatever traits there are; it need be none of the font's.
func TestKernWithoutTraits(t *testing.T) {
	f := plain()
	g := copied(f)
	g.Traits, g.Font.Kerns, g.Font.Steps, g.Font.Chars[0].Tag = nil, nil, nil, 0
	for code := range 256 {
		g.Traits = append(g.Traits, trait(code, 0, 1000, -1000))
	}
	for _, fix := range []int{-27779, 19444, 65, 67, 500000, 0, 3} {
		n, e := level.Kern(f, fix, 2)
		m, x := level.Kern(g, fix, 2)
		if want := fix + floor(1000, fix, 40); n != want || m != want || e != api.OK || x != api.OK {
			t.Errorf("%d: %d, %d, not %d: %v, %v", fix, n, m, want, e, x)
		}
	}
}

// P9.1: levels of any size, of faces of all ends.
func TestClamp(t *testing.T) {
	for _, up := range []int{0, 1, 2, 7, 8} {
		for _, down := range []int{0, 1, 5, 8} {
			f := example()
			f.Up, f.Down = up, down
			for _, at := range levels(f) {
				if n := level.Clamp(f, at); n != clamp(f, at) {
					t.Errorf("%d to %d: Clamp(%d): %d", -down, up, at, n)
				}
			}
			for at, want := range map[int]int{math.MinInt: -down, -9: -down, -down - 1: -down, -down: -down, 0: 0, up: up, up + 1: up, 9: up, math.MaxInt: up} {
				if n := level.Clamp(f, at); n != want {
					t.Errorf("%d to %d: Clamp(%d): %d, not %d", -down, up, at, n, want)
				}
			}
			f.Step = 0 // the levels are there, though they do not stretch
			if level.Clamp(f, 9) != up || level.Clamp(f, -9) != -down {
				t.Errorf("%d to %d, without steps", -down, up)
			}
		}
	}
}

// P9.1, P9.2, P9.3: at a level beyond all there are a face is as at the last one.
func TestBeyondLevels(t *testing.T) {
	for _, f := range faces() {
		for _, x := range [][2]int{{f.Up, f.Up + 1}, {f.Up, math.MaxInt}, {-f.Down, -f.Down - 1}, {-f.Down, math.MinInt}} {
			for i := range min(len(f.Font.Chars), 20) {
				code := f.Font.First + i
				n, e := level.Width(f, code, x[0])
				m, h := level.Width(f, code, x[1])
				a, b, _ := level.Edges(f, code, x[0])
				c, d, _ := level.Edges(f, code, x[1])
				if n != m || e != h || a != c || b != d {
					t.Errorf("%v: %d at %v", f, code, x)
				}
			}
			if n, _ := level.Kern(f, 54321, x[0]); n == 0 {
				t.Errorf("%v: no kern at %d", f, x[0])
			} else if m, _ := level.Kern(f, 54321, x[1]); n != m {
				t.Errorf("%v: a kern at %v", f, x)
			}
		}
	}
}

// P9.4: at the level 0 widths are those of the font, whatever steps and traits there are.
func TestLevelZero(t *testing.T) {
	for _, f := range faces() {
		for i, c := range f.Font.Chars {
			if c.Width == 0 {
				continue
			}
			fix := f.Font.Widths[c.Width]
			want := floor(1<<20, fix, f.Size)
			if n, e := level.Width(f, f.Font.First+i, 0); n != want || e != api.OK {
				t.Errorf("%v: %d: %d, %v, not %d", f, f.Font.First+i, n, e, want)
			}
			if n, e := level.Kern(f, fix, 0); n != want || e != api.OK {
				t.Errorf("%v: the kern %d: %d, %v, not %d", f, fix, n, e, want)
			}
		}
	}
}

// P9.4: a greater level has no lesser width of what is not below 0.
func TestGreaterLevels(t *testing.T) {
	grown := 0
	for _, f := range append(faces(), some(100)...) {
		for i, c := range f.Font.Chars[:min(len(f.Font.Chars), 12)] {
			fix := f.Font.Widths[c.Width]
			if c.Width == 0 || fix < 0 {
				continue
			}
			was, _ := level.Width(f, f.Font.First+i, -9)
			kernWas, _ := level.Kern(f, fix, -9)
			for at := -8; at < 10; at++ {
				n, e := level.Width(f, f.Font.First+i, at)
				k, x := level.Kern(f, fix, at)
				if e != api.OK || x != api.OK || n < was || k < kernWas || n < 0 || k < 0 {
					t.Errorf("%v: %d at %d: %d, %d", f, f.Font.First+i, at, n, k)
				}
				if n > was && k > kernWas {
					grown++
				}
				was, kernWas = n, k
			}
		}
	}
	if grown < 1000 {
		t.Errorf("only %d grow", grown)
	}
}

// P9.1, P9.2, P9.3: faces of any numbers, near what may be.
func TestNoise(t *testing.T) {
	source := rand.New(rand.NewSource(99))
	may := 0
	for range 4000 {
		f := copied(plain())
		all := []*int{&f.Size, &f.Step, &f.Up, &f.Down}
		for i := range f.Traits {
			all = append(all, &f.Traits[i].Code, &f.Traits[i].Stretch, &f.Traits[i].Left, &f.Traits[i].Right)
		}
		for range 1 + source.Intn(3) {
			*all[source.Intn(len(all))] = []int{0, 1, -1, 7, 8, 9, 49, 50, 51, 66, 68, 255, 256, 999, 1000, 1001, -1000, -1001, 1 << 16, 1 << 22, source.Int()}[source.Intn(21)]
		}
		if hold(t, f) {
			may++
		}
	}
	if may < 400 || may > 3600 {
		t.Errorf("%d may be", may)
	}
}

// roomy is a face with spare room behind all lists, in which there is what may not be.
func roomy(f api.Face) api.Face {
	f.Traits = append(slices.Clone(f.Traits), trait(-9, -9, -9000, 9000), trait(300, 3000, 0, 0))[:len(f.Traits)]
	f.Font.Chars = append(slices.Clone(f.Font.Chars), api.Char{Width: -9}, api.Char{Tag: 9})[:len(f.Font.Chars)]
	f.Font.Steps = append(slices.Clone(f.Font.Steps), api.Step{Skip: -9}, api.Step{Op: 300})[:len(f.Font.Steps)]
	for _, l := range lists(&f.Font) {
		*l = append(slices.Clone(*l), 1<<50, -1<<50, 7)[:len(*l)]
	}
	return f
}

// stretched is a face whose lists go up to the ends of their spare room.
func stretched(f api.Face) api.Face {
	f.Traits, f.Font.Chars, f.Font.Steps = f.Traits[:cap(f.Traits)], f.Font.Chars[:cap(f.Font.Chars)], f.Font.Steps[:cap(f.Font.Steps)]
	for _, l := range lists(&f.Font) {
		*l = (*l)[:cap(*l)]
	}
	return f
}

// R4, for P9.1, P9.2 and P9.3: what is handed in stays as it is, its spare room too, and that counts for nothing.
func TestHandedInStays(t *testing.T) {
	all := faces()
	for _, x := range changes() {
		f := copied(plain())
		x.do(&f)
		all = append(all, f)
	}
	for i, f := range all {
		g := roomy(f)
		was := copied(stretched(g))
		for _, at := range []int{-9, -1, 0, 1, 9} {
			if level.Check(g) != level.Check(f) || level.Clamp(g, at) != level.Clamp(f, at) {
				t.Errorf("%d: spare room counts", i)
			}
			for _, code := range []int{64, 65, 66, 67, 68, 72, 73, 200, 255} {
				n, e := level.Width(g, code, at)
				m, x := level.Width(f, code, at)
				a, b, h := level.Edges(g, code, at)
				c, d, y := level.Edges(f, code, at)
				if n != m || e != x || a != c || b != d || h != y {
					t.Errorf("%d: spare room counts, for %d", i, code)
				}
			}
			level.Kern(g, 5000, at)
			level.Kern(g, 1<<24, at)
		}
		if !same(stretched(g), was) || !same(f, g) {
			t.Errorf("%d is changed", i)
		}
	}
}

// R4, for P9.1, P9.2 and P9.3: lists without elements may be nil or not; what is handed in is not kept.
func TestNil(t *testing.T) {
	f, g := quiet(), quiet()
	f.Traits, f.Font.Steps, f.Font.Kerns, f.Font.Params = nil, nil, nil, nil
	g.Traits, g.Font.Steps, g.Font.Kerns, g.Font.Params = []api.Trait{}, []api.Step{}, []int{}, make([]int, 0, 9)
	if !hold(t, f) || !hold(t, g) {
		t.Error("they may not be")
	}
	f = plain()
	for _, stretch := range []int{0, 1000, 250, 1001, 0} {
		f.Traits[0].Stretch = stretch
		hold(t, f)
	}
	for _, fix := range []int{5, -5, 1 << 24, 0} {
		f.Font.Widths[1] = fix
		hold(t, f)
	}
}

// R5, for P9.1, P9.2 and P9.3: answers hang on what is handed in alone, not on what was asked ahead of it, or is asked at once.
func TestAtOnce(t *testing.T) {
	l := append(some(20), plain(), example(), quiet(), api.Face{})
	for _, x := range traits() {
		f := copied(plain())
		x.do(&f)
		l = append(l, f)
	}
	var all sync.WaitGroup
	for n := range 8 {
		all.Go(func() {
			for i := range len(l) {
				hold(t, l[(i*(2*n+1)+n)%len(l)])
			}
		})
	}
	all.Wait()
}
