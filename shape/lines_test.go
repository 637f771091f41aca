package shape_test

import (
	"math"
	"math/rand"
	"reflect"
	"slices"

	"compositor/api"
)

// What the chapter's words ask, told another way than the package tells it; and layouts to ask it of.

// limit is a field's name, with the least and the greatest number that it may be.
type limit struct {
	name        string
	least, most int
}

// limits are those of all fields but Shape's and Hang, whose ones hang on Width.
var limits = []limit{
	{"Width", 1, 67108864}, {"Space", 0, 4194304}, {"Stretch", 0, 4194304}, {"Shrink", 0, 4194304}, {"After", -100, 100},
	{"Left", 0, 40}, {"Right", 0, 40}, {"First", -1, 10000}, {"Second", 0, 10000}, {"Extra", 0, 67108864},
	{"LinePen", 0, 1000}, {"HyphPen", -1000, 1000}, {"DashPen", -1000, 1000},
	{"Jump", 0, 10000}, {"Double", 0, 10000}, {"Final", 0, 10000}, {"River", 0, 10000}, {"Ladder", 0, 10000}, {"Loose", -5, 5},
}

// field is a layout's, by its name.
func field(l *api.Layout, name string) *int {
	return reflect.ValueOf(l).Elem().FieldByName(name).Addr().Interface().(*int)
}

// mayBe tells whether a layout may be.
func mayBe(l api.Layout) bool {
	for _, x := range limits {
		if n := *field(&l, x.name); n < x.least || x.most < n {
			return false
		}
	}
	wrong := slices.ContainsFunc(l.Shape, func(s api.Line) bool {
		return s.Indent < 0 || s.Indent > 67108864 || s.Width < 1 || s.Width > 67108864
	})
	return !wrong && len(l.Shape) < 41 && -l.Width < l.Hang && l.Hang < l.Width
}

// lines are all 200 of a layout, nil of one that may not be.
func lines(l api.Layout) []api.Line {
	if !mayBe(l) {
		return nil
	}
	if len(l.Shape) > 0 {
		rest := slices.Repeat(l.Shape[len(l.Shape)-1:], 200-len(l.Shape))
		return slices.Concat(l.Shape, rest)
	}
	whole := slices.Repeat([]api.Line{{Indent: 0, Width: l.Width}}, 200)
	hanging := slices.Repeat([]api.Line{{Indent: 0, Width: l.Width + l.Hang}}, 200)
	if l.Hang >= 0 {
		hanging = slices.Repeat([]api.Line{{Indent: l.Hang, Width: l.Width - l.Hang}}, 200)
	}
	if l.After >= 0 {
		return slices.Concat(whole[:l.After], hanging[l.After:])
	}
	return slices.Concat(hanging[:-l.After], whole[-l.After:])
}

// from is the least number from which on all of these are alike, 0 of none.
func from(all []api.Line) int {
	for i := range all {
		if !slices.ContainsFunc(all[i:], func(s api.Line) bool { return s != all[i] }) {
			return i + 1
		}
	}
	return 0
}

// asked are the numbers of lines that are asked for: the edges, and, of a layout that may be, all between them.
func asked(may bool) []int {
	all := []int{math.MinInt, math.MinInt + 1, math.MinInt + 200, -1 << 62, -1<<32 + 1, -201, -200, -2, -1, 0, 1, 2, 3, 199, 200, 201, 202, 400, 1 << 32, 1<<32 + 1, 1<<32 + 200, 1 << 62, math.MaxInt - 200, math.MaxInt - 1, math.MaxInt}
	for n := 4; may && n < 199; n++ {
		all = append(all, n)
	}
	return all
}

// pair is a line, by its indent and its width.
type pair [2]int

// line is that.
func line(p pair) api.Line { return api.Line{Indent: p[0], Width: p[1]} }

// shaped are these lines.
func shaped(all ...pair) []api.Line {
	var l []api.Line
	for _, p := range all {
		l = append(l, line(p))
	}
	return l
}

// unlike are so many lines, no two of which are one.
func unlike(count int) []api.Line {
	var l []api.Line
	for i := range count {
		l = append(l, api.Line{Indent: 1000 - i, Width: 100 + 7*i})
	}
	return l
}

// alike are so many lines that are one.
func alike(count int) []api.Line {
	return slices.Repeat([]api.Line{{Indent: 3, Width: 8}}, count)
}

// but are lines with another one at a place.
func but(l []api.Line, at int, s api.Line) []api.Line {
	l = slices.Clone(l)
	l[at] = s
	return l
}

// plain is a layout no two of whose numbers are one, with so many lines of Shape.
func plain(count int) api.Layout {
	return api.Layout{
		Width: 5000, Space: 300, Stretch: 170, Shrink: 111, Shape: unlike(count), Hang: -40, After: 3, Left: 2, Right: 4, First: 101, Second: 207,
		Extra: 99, LinePen: 10, HyphPen: 50, DashPen: -51, Jump: 1001, Double: 1002, Final: 1003, River: 1004, Ladder: 1005, Loose: 1,
	}
}

// hung is a layout of which all but these numbers are 0.
func hung(width, hang, after int) api.Layout {
	return api.Layout{Width: width, Hang: hang, After: after}
}

// some are layouts of all kinds, the same ones every time, that may be.
func some(count int) []api.Layout {
	source := rand.New(rand.NewSource(15))
	var all []api.Layout
	for range count {
		var l api.Layout
		for _, x := range limits {
			*field(&l, x.name) = anyOf(source, x.least, x.most)
		}
		l.Hang = anyOf(source, 1-l.Width, l.Width-1)
		for range source.Intn(41) >> source.Intn(8) {
			if n := len(l.Shape); n > 0 && source.Intn(3) > 0 {
				l.Shape = append(l.Shape, l.Shape[source.Intn(n)])
			} else {
				l.Shape = append(l.Shape, api.Line{Indent: anyOf(source, 0, 67108864), Width: anyOf(source, 1, 67108864)})
			}
		}
		all = append(all, l)
	}
	return all
}

// anyOf is a number from a least one to a greatest one, often small, often one of these two.
func anyOf(source *rand.Rand, least, most int) int {
	switch source.Intn(6) {
	case 0:
		return least
	case 1:
		return most
	case 2:
		return min(least+source.Intn(12), most)
	}
	return least + source.Intn(most-least+1)
}

// wrong are layouts that may not be, by each of their numbers, and by each of Shape's lines, their count among them.
func wrong() []api.Layout {
	all := []api.Layout{{}, plain(41), plain(42), {Width: 7, Shape: make([]api.Line, 1)}, {Shape: unlike(2)}, {Width: 1, Shape: alike(41)}}
	for _, x := range limits {
		for _, n := range []int{x.least - 1, x.most + 1, math.MinInt, math.MinInt + 1, math.MaxInt, 1<<32 + x.least} {
			for _, l := range []api.Layout{plain(0), plain(3), {Width: 7}} {
				*field(&l, x.name) = n
				all = append(all, l)
			}
		}
	}
	for _, width := range []int{1, 2, 5000, 67108864} {
		for _, hang := range []int{width, -width, width + 1, -width - 1, math.MinInt, math.MinInt + width, math.MaxInt, math.MaxInt - width} {
			all = append(all, hung(width, hang, 0), hung(width, hang, 100), hung(width, hang, -1), api.Layout{Width: width, Hang: hang, Shape: unlike(2)})
		}
	}
	for _, count := range []int{1, 2, 3, 4, 39, 40} {
		for _, at := range []int{0, count / 2, count - 1} {
			for _, s := range []api.Line{{Indent: -1, Width: 1}, {Indent: 67108865, Width: 1}, {}, {Width: -1}, {Width: 67108865}, {Indent: math.MinInt, Width: 5}, {Indent: 5, Width: math.MinInt}, {Indent: math.MaxInt, Width: math.MaxInt}} {
				l := plain(count)
				l.Shape = but(l.Shape, at, s)
				all = append(all, l)
			}
		}
	}
	return all
}

// same tells whether layouts are the same.
func same(l, m api.Layout) bool {
	shapes := slices.Equal(l.Shape, m.Shape)
	l.Shape, m.Shape = nil, nil
	return shapes && reflect.DeepEqual(l, m)
}
