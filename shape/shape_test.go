package shape_test

import (
	"math"
	"math/rand"
	"slices"
	"sync"
	"testing"

	"compositor/api"
	"compositor/shape"
)

// hold holds At, at all lines that are asked for, and From against the chapter's words, and tells whether a layout may be.
func hold(t *testing.T, l api.Layout) bool {
	t.Helper()
	all := lines(l)
	for _, n := range asked(all != nil) {
		want, x := api.Line{}, api.ErrArg
		if all == nil {
			x = api.ErrParam
		} else if 1 <= n && n <= 200 {
			want, x = all[n-1], api.OK
		}
		if s, e := shape.At(l, n); s != want || e != x {
			t.Errorf("At(%v, %d): %v, %v, not %v, %v", l, n, s, e, want, x)
		}
	}
	holdFrom(t, l, from(all))
	return all != nil
}

// holdFrom holds From against a number, and against At, line by line.
func holdFrom(t *testing.T, l api.Layout, want int) {
	t.Helper()
	first := shape.From(l)
	if first != want {
		t.Errorf("From(%v): %d, not %d", l, first, want)
	}
	if first == 0 {
		return
	}
	last, _ := shape.At(l, 200)
	for n := first; n <= 200; n++ {
		if s, e := shape.At(l, n); s != last || e != api.OK {
			t.Errorf("%v: line %d is unlike the last one, From is %d", l, n, first)
		}
	}
	if s, e := shape.At(l, first-1); first > 1 && (s == last || e != api.OK) {
		t.Errorf("%v: line %d is like the last one, From is %d", l, first-1, first)
	}
}

// holdAt holds some of a layout's lines against what is written out.
func holdAt(t *testing.T, l api.Layout, at map[int]pair) {
	t.Helper()
	for n, want := range at {
		if s, e := shape.At(l, n); s != line(want) || e != api.OK {
			t.Errorf("At(%v, %d): %v, %v, not %v", l, n, s, e, want)
		}
	}
}

// P15.1: the chapter's example.
func TestExample(t *testing.T) {
	l := api.Layout{Width: 10, Hang: 3, After: 1}
	if s, e := shape.At(l, 2); s != (api.Line{Indent: 3, Width: 7}) || e != api.OK || !hold(t, l) {
		t.Errorf("%v, %v", s, e)
	}
}

// P15.1, P15.2: layouts, some of their lines, and the first one from which on all are alike, written out.
func TestWrittenOut(t *testing.T) {
	for _, x := range []struct {
		l    api.Layout
		from int
		at   map[int]pair
	}{
		{hung(10, 0, 0), 1, map[int]pair{1: {0, 10}, 2: {0, 10}, 200: {0, 10}}},
		{hung(10, 3, 0), 1, map[int]pair{1: {3, 7}, 2: {3, 7}, 200: {3, 7}}},
		{hung(10, 3, 1), 2, map[int]pair{1: {0, 10}, 2: {3, 7}, 3: {3, 7}, 200: {3, 7}}},
		{hung(10, 3, -1), 2, map[int]pair{1: {3, 7}, 2: {0, 10}, 3: {0, 10}, 200: {0, 10}}},
		{hung(10, -3, 2), 3, map[int]pair{1: {0, 10}, 2: {0, 10}, 3: {0, 7}, 4: {0, 7}, 200: {0, 7}}},
		{hung(10, -3, -2), 3, map[int]pair{1: {0, 7}, 2: {0, 7}, 3: {0, 10}, 4: {0, 10}, 200: {0, 10}}},
		{hung(10, 9, 100), 101, map[int]pair{1: {0, 10}, 100: {0, 10}, 101: {9, 1}, 102: {9, 1}, 200: {9, 1}}},
		{hung(10, -9, -100), 101, map[int]pair{1: {0, 1}, 100: {0, 1}, 101: {0, 10}, 102: {0, 10}, 200: {0, 10}}},
		{hung(67108864, 67108863, 1), 2, map[int]pair{1: {0, 67108864}, 2: {67108863, 1}}},
		{hung(67108864, -67108863, -1), 2, map[int]pair{1: {0, 1}, 2: {0, 67108864}}},
		{api.Layout{Width: 10, Hang: 3, After: 5, Shape: shaped(pair{1, 2})}, 1, map[int]pair{1: {1, 2}, 2: {1, 2}, 6: {1, 2}, 200: {1, 2}}},
		{api.Layout{Width: 10, Hang: -3, After: -5, Shape: shaped(pair{1, 2}, pair{0, 99})}, 2, map[int]pair{1: {1, 2}, 2: {0, 99}, 3: {0, 99}, 200: {0, 99}}},
		{plain(3), 3, map[int]pair{1: {1000, 100}, 2: {999, 107}, 3: {998, 114}, 4: {998, 114}, 200: {998, 114}}},
		{plain(40), 40, map[int]pair{1: {1000, 100}, 39: {962, 366}, 40: {961, 373}, 41: {961, 373}, 200: {961, 373}}},
	} {
		holdAt(t, x.l, x.at)
		holdFrom(t, x.l, x.from)
		if !hold(t, x.l) {
			t.Errorf("%v may not be", x.l)
		}
	}
}

// P15.1, P15.2: layouts that may not be, by each of their numbers: with whatever line beside them, it is ErrParam, and 0.
func TestMayNotBe(t *testing.T) {
	for _, l := range wrong() {
		if hold(t, l) {
			t.Errorf("%v may be", l)
		}
		for _, n := range []int{math.MinInt, -1, 0, 1, 2, 200, 201, math.MaxInt} {
			if s, e := shape.At(l, n); s != (api.Line{}) || e != api.ErrParam {
				t.Errorf("At(%v, %d): %v, %v", l, n, s, e)
			}
		}
		if n := shape.From(l); n != 0 {
			t.Errorf("From(%v): %d", l, n)
		}
	}
}

// P15.1: the numbers of lines that there are, and those that there are not.
func TestLine(t *testing.T) {
	for _, l := range []api.Layout{{Width: 1}, hung(10, 3, 1), hung(10, -3, -100), plain(0), plain(1), plain(40)} {
		for n, x := range map[int]api.Errno{
			1: api.OK, 2: api.OK, 199: api.OK, 200: api.OK, 0: api.ErrArg, -1: api.ErrArg, -2: api.ErrArg, -200: api.ErrArg, 201: api.ErrArg, 202: api.ErrArg,
			1 << 32: api.ErrArg, 1<<32 + 1: api.ErrArg, -1<<32 + 1: api.ErrArg, math.MinInt: api.ErrArg, math.MinInt + 1: api.ErrArg, math.MaxInt: api.ErrArg, math.MaxInt - 1: api.ErrArg,
		} {
			if s, e := shape.At(l, n); e != x || (e != api.OK) != (s == api.Line{}) {
				t.Errorf("At(%v, %d): %v, %v", l, n, s, e)
			}
		}
		hold(t, l)
	}
}

// P15.1, P15.2: each number at its least and its greatest.
func TestNumbers(t *testing.T) {
	for _, x := range limits {
		for _, n := range []int{x.least, min(x.least+1, x.most), max(x.most-1, x.least), x.most} {
			for _, l := range []api.Layout{{Width: 7}, plain(0), plain(3)} {
				if x.name == "Width" {
					l.Hang = 0
				}
				*field(&l, x.name) = n
				if !hold(t, l) {
					t.Errorf("%s %d", x.name, n)
				}
			}
		}
	}
}

// P15.1, P15.2: how many lines Shape has, and those behind the last one.
func TestShapeLines(t *testing.T) {
	for count := range 50 {
		l := plain(count)
		may := hold(t, l)
		if may != (count < 41) {
			t.Errorf("%d lines: %t", count, may)
		}
		if !may || count == 0 {
			continue
		}
		holdFrom(t, l, count)
		for n := 1; n <= 200; n++ {
			want := l.Shape[min(n, count)-1]
			holdAt(t, l, map[int]pair{n: {want.Indent, want.Width}})
		}
		l.Shape = alike(count)
		holdFrom(t, l, 1)
		hold(t, l)
	}
}

// P15.2: lines of Shape that are alike, and the one that is unlike, at all places, in both numbers or in one alone.
func TestAlike(t *testing.T) {
	for _, count := range []int{2, 3, 5, 40} {
		for at := range count {
			for _, s := range []api.Line{{Indent: 3, Width: 9}, {Indent: 2, Width: 8}, {Indent: 8, Width: 3}, {Indent: 67108864, Width: 67108864}, {Indent: 0, Width: 11}, {Indent: 3, Width: 8}} {
				l := plain(0)
				l.Shape = but(alike(count), at, s)
				want := at + 2
				if at == count-1 {
					want = count
				}
				if s == l.Shape[0] && s == l.Shape[count-1] {
					want = 1
				}
				holdFrom(t, l, want)
				hold(t, l)
			}
			l := plain(count)
			l.Shape[at] = l.Shape[count-1]
			hold(t, l)
		}
		l := plain(count)
		l.Shape[count-2] = l.Shape[count-1]
		holdFrom(t, l, count-1)
	}
	for _, x := range []struct {
		shape []pair
		from  int
	}{
		{[]pair{{1, 5}, {2, 5}, {1, 5}, {1, 5}}, 3}, {[]pair{{1, 5}, {1, 6}, {1, 5}, {1, 5}}, 3}, {[]pair{{1, 5}, {2, 5}, {1, 5}, {2, 5}}, 4}, {[]pair{{1, 5}, {5, 1}}, 2},
		{[]pair{{1, 5}, {1, 5}}, 1}, {[]pair{{0, 5}, {1, 4}, {2, 3}, {2, 3}, {2, 3}}, 3}, {[]pair{{2, 3}, {2, 3}, {2, 3}, {1, 4}, {0, 5}}, 5}, {[]pair{{0, 10}}, 1}, {[]pair{{4, 6}, {0, 10}}, 2},
	} {
		for _, l := range []api.Layout{hung(10, 0, 0), hung(10, 4, 7), hung(10, -4, -7), hung(10, 4, -1)} {
			l.Shape = shaped(x.shape...)
			holdFrom(t, l, x.from)
			hold(t, l)
		}
	}
}

// P15.1, P15.2: a Shape stands ahead of a Hang.
func TestShapeAndHang(t *testing.T) {
	for _, count := range []int{1, 2, 40} {
		for _, hang := range []int{0, 1, -1, 9, -9} {
			for _, after := range []int{0, 1, -1, 2, -2, 40, -40, 41, -41, 100, -100} {
				l, m := hung(10, hang, after), hung(10, 0, 0)
				l.Shape, m.Shape = unlike(count), unlike(count)
				holdFrom(t, l, count)
				hold(t, l)
				for n := 1; n <= 200; n++ {
					a, _ := shape.At(l, n)
					b, _ := shape.At(m, n)
					if a != b {
						t.Errorf("%v, line %d: %v, not %v", l, n, a, b)
					}
				}
			}
		}
	}
}

// P15.1, P15.2: Hang at its edges, at small and great Widths; of 0, all lines are alike, whatever After is.
func TestHang(t *testing.T) {
	for _, width := range []int{1, 2, 3, 10, 1 << 20, 67108863, 67108864} {
		for _, hang := range []int{0, 1, -1, 2, -2, width / 2, -width / 2, width - 2, 2 - width, width - 1, 1 - width} {
			for _, after := range []int{0, 1, -1, 2, -2, 7, -8, 50, -50, 99, -99, 100, -100} {
				l := hung(width, hang, after)
				if hold(t, l) != (-width < hang && hang < width) {
					t.Errorf("%v", l)
				}
				if hang == 0 {
					holdFrom(t, l, 1)
					holdAt(t, l, map[int]pair{1: {0, width}, 2: {0, width}, 100: {0, width}, 101: {0, width}, 200: {0, width}})
				}
			}
		}
	}
}

// P15.1, P15.2: After at all that it may be, and the lines next to it.
func TestAfter(t *testing.T) {
	for after := -100; after <= 100; after++ {
		for hang, hanging := range map[int]pair{0: {0, 10}, 1: {1, 9}, -1: {0, 9}, 9: {9, 1}, -9: {0, 1}} {
			l, whole := hung(10, hang, after), pair{0, 10}
			hold(t, l)
			first, next, first1 := whole, hanging, after
			if after < 0 {
				first, next, first1 = hanging, whole, -after
			}
			for n := 1; n <= 200; n++ {
				want := first
				if n > first1 {
					want = next
				}
				holdAt(t, l, map[int]pair{n: want})
			}
			if hang == 0 {
				first1 = 0
			}
			holdFrom(t, l, first1+1)
		}
	}
	for _, after := range []int{-101, 101, -200, 200, -201, 201, math.MinInt, math.MaxInt} {
		if hold(t, hung(10, 3, after)) {
			t.Errorf("After %d", after)
		}
	}
}

// P15.1, P15.2: layouts of all kinds, and what of them has no say in lines.
func TestSome(t *testing.T) {
	source := rand.New(rand.NewSource(151))
	for _, l := range some(800) {
		if !hold(t, l) {
			t.Errorf("%v may not be", l)
		}
		m := api.Layout{Width: l.Width, Shape: l.Shape, Hang: l.Hang, After: l.After}
		for _, n := range []int{1, 2, 3, len(l.Shape), len(l.Shape) + 1, 1 + source.Intn(200), 200} {
			a, e := shape.At(l, n)
			b, x := shape.At(m, n)
			if a != b || e != x {
				t.Errorf("%v, line %d: %v, %v, not %v, %v", l, n, a, e, b, x)
			}
		}
		holdFrom(t, l, shape.From(m))
		*field(&l, limits[source.Intn(len(limits))].name) += source.Intn(2001) - 1000
		hold(t, l)
	}
}

// P15.3: a line's width is 1 at least, its indent 0; without Shape both are at most Width.
func TestWithin(t *testing.T) {
	all := slices.Concat(some(600), []api.Layout{{Width: 1}, hung(1, 0, 1), hung(2, 1, 0), hung(2, -1, 0), hung(2, 1, -1), hung(2, -1, -1), hung(67108864, 67108863, 100), hung(67108864, -67108863, -100), plain(0), plain(1), plain(40)})
	for _, l := range all {
		for n := 1; n <= 200; n++ {
			s, e := shape.At(l, n)
			if e != api.OK || s.Width < 1 || s.Indent < 0 || len(l.Shape) == 0 && (s.Indent > l.Width || s.Width > l.Width || s.Indent+s.Width > l.Width) {
				t.Errorf("At(%v, %d): %v, %v", l, n, s, e)
			}
		}
		if first := shape.From(l); first < 1 || first > 200 {
			t.Errorf("From(%v): %d", l, first)
		}
	}
}

// R1, for P15.1 and P15.2: what is long ends, too.
func TestLong(t *testing.T) {
	l := hung(10, 3, 1)
	l.Shape = alike(1 << 22)
	for _, n := range []int{1, 40, 41, 200, 201, 1 << 22} {
		if s, e := shape.At(l, n); s != (api.Line{}) || e != api.ErrParam {
			t.Errorf("line %d: %v, %v", n, s, e)
		}
	}
	if n := shape.From(l); n != 0 {
		t.Errorf("%d", n)
	}
}

// R4, for P15.1 and P15.2: a Shape without elements may be nil or not, and is none.
func TestNil(t *testing.T) {
	for _, s := range [][]api.Line{nil, {}, make([]api.Line, 0, 9), unlike(3)[:0]} {
		for _, l := range []api.Layout{hung(10, 0, 0), hung(10, 3, 1), hung(10, -3, -2)} {
			l.Shape = s
			want := pair{0, 10}
			if l.After == 1 {
				want = pair{3, 7}
			}
			holdAt(t, l, map[int]pair{200: want})
			if !hold(t, l) {
				t.Errorf("%v may not be", l)
			}
			l.Width = 0
			if hold(t, l) {
				t.Errorf("%v may be", l)
			}
		}
	}
}

// R4, for P15.1 and P15.2: what is handed in stays as it is, its spare room too, and that counts for nothing.
func TestHandedInStays(t *testing.T) {
	for _, l := range slices.Concat(some(300), wrong(), []api.Layout{plain(0), plain(1), plain(40), hung(10, 3, 1)}) {
		for _, spare := range []api.Line{{Indent: -1, Width: -1}, {Indent: 5, Width: 6}} {
			m := l
			m.Shape = append(slices.Clone(l.Shape), spare, spare)[:len(l.Shape)]
			was := slices.Clone(m.Shape[:len(l.Shape)+2])
			if hold(t, m) != mayBe(l) || !same(m, l) || !slices.Equal(m.Shape[:len(l.Shape)+2], was) {
				t.Errorf("%v", l)
			}
		}
	}
}

// R4, for P15.1 and P15.2: a change of what was handed in, behind a call, changes no answer that was given, nor a later one about another layout.
func TestNotKept(t *testing.T) {
	for _, l := range slices.Concat(some(300), []api.Layout{plain(1), plain(2), plain(40), hung(10, 3, 1)}) {
		m := l
		m.Shape = slices.Clone(l.Shape)
		first := shape.From(m)
		s, _ := shape.At(m, 2)
		for i := range m.Shape {
			m.Shape[i] = api.Line{Indent: 77, Width: 78 + i}
		}
		hold(t, m)
		clear(m.Shape)
		hold(t, m)
		m.Width, m.Hang, m.After = 9, 8, -3
		hold(t, m)
		if again, e := shape.At(l, 2); shape.From(l) != first || again != s || e != api.OK {
			t.Errorf("%v: another answer behind a change", l)
		}
		hold(t, l)
	}
}

// R5, for P15.1 and P15.2: answers hang on what is handed in alone, not on what was asked ahead of it, or is asked at once.
func TestAtOnce(t *testing.T) {
	l := slices.Concat(some(80), wrong()[:40], []api.Layout{plain(40), plain(3), {}, hung(10, 3, 1)})
	var all sync.WaitGroup
	for n := range 8 {
		all.Go(func() {
			for i := range len(l) {
				hold(t, l[(i*(2*n+1)+n)%len(l)])
			}
		})
	}
	all.Wait()
}
