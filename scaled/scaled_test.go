package scaled_test

import (
	"math"
	"math/big"
	"slices"
	"testing"

	"compositor/api"
	"compositor/scaled"
)

const most = api.MaxDim

// edges are the numbers that the chapter's edges are about, those whose sums, differences and products wrap round to small ones, and ordinary ones.
func edges() []int {
	l := []int{0, 1, 2, 3, 7, 1000, 1<<15 - 1, 1 << 15, 1<<15 + 1, most/2 - 1, most / 2, most/2 + 1, most - 1, most, most + 1, most + 2, 1 << 31, 1 << 32, 1 << 33, 1 << 62, math.MaxInt - 1, math.MaxInt}
	for _, n := range slices.Clone(l) {
		l = append(l, -n)
	}
	return append(l, math.MinInt)
}

// exact is what a call has to answer, by numbers that have no greatest one.
func exact(a, b int, do func(z, x, y *big.Int) *big.Int) (int, api.Errno) {
	n := do(new(big.Int), big.NewInt(int64(a)), big.NewInt(int64(b)))
	for _, x := range []*big.Int{big.NewInt(int64(a)), big.NewInt(int64(b)), n} {
		if x.CmpAbs(big.NewInt(most)) > 0 {
			return 0, api.ErrDim
		}
	}
	return int(n.Int64()), api.OK
}

// P1.1: Check.
func TestCheck(t *testing.T) {
	for _, n := range []int{0, 1, -1, 65536, most - 1, 1 - most, most, -most} {
		if !scaled.Check(n) {
			t.Errorf("%d: no dimension", n)
		}
	}
	for _, n := range []int{most + 1, -most - 1, 1 << 31, -1 << 31, 1 << 32, -1 << 32, math.MaxInt, math.MinInt} {
		if scaled.Check(n) {
			t.Errorf("%d: a dimension", n)
		}
	}
}

// P1.1: Add, Sub and Times, written out.
func TestTwo(t *testing.T) {
	type call func(a, b int) (int, api.Errno)
	for i, c := range []struct {
		do   call
		a, b int
		n    int
		e    api.Errno
	}{
		{scaled.Add, 3, 4, 7, api.OK},
		{scaled.Add, 3, -4, -1, api.OK},
		{scaled.Add, most, 0, most, api.OK},
		{scaled.Add, most, -most, 0, api.OK},
		{scaled.Add, most - 1, 1, most, api.OK},
		{scaled.Add, most, 1, 0, api.ErrDim},
		{scaled.Add, -most, -1, 0, api.ErrDim},
		{scaled.Add, most + 1, -1, 0, api.ErrDim},
		{scaled.Add, -1, most + 1, 0, api.ErrDim},
		{scaled.Add, math.MinInt, math.MinInt, 0, api.ErrDim},
		{scaled.Add, math.MaxInt, -math.MaxInt, 0, api.ErrDim},
		{scaled.Sub, 3, 4, -1, api.OK},
		{scaled.Sub, most, most, 0, api.OK},
		{scaled.Sub, 0, most, -most, api.OK},
		{scaled.Sub, 1 - most, 1, -most, api.OK},
		{scaled.Sub, -most, 1, 0, api.ErrDim},
		{scaled.Sub, most, -1, 0, api.ErrDim},
		{scaled.Sub, most + 1, most + 1, 0, api.ErrDim},
		{scaled.Sub, 1, -most - 1, 0, api.ErrDim},
		{scaled.Sub, math.MinInt, math.MinInt, 0, api.ErrDim},
		{scaled.Sub, math.MaxInt, math.MaxInt, 0, api.ErrDim},
		{scaled.Times, 3, 4, 12, api.OK},
		{scaled.Times, -3, 4, -12, api.OK},
		{scaled.Times, most, 1, most, api.OK},
		{scaled.Times, most, -1, -most, api.OK},
		{scaled.Times, most, 0, 0, api.OK},
		{scaled.Times, 1<<15 - 1, 1<<15 + 1, most, api.OK},
		{scaled.Times, 1 << 15, 1 << 15, 0, api.ErrDim},
		{scaled.Times, 1 << 15, -1 << 15, 0, api.ErrDim},
		{scaled.Times, most, most, 0, api.ErrDim},
		{scaled.Times, most + 1, 0, 0, api.ErrDim},
		{scaled.Times, 0, -most - 1, 0, api.ErrDim},
		{scaled.Times, 1 << 32, 1 << 32, 0, api.ErrDim},
		{scaled.Times, math.MinInt, -1, 0, api.ErrDim},
	} {
		if n, e := c.do(c.a, c.b); n != c.n || e != c.e {
			t.Errorf("%d: of %d and %d: %d, %v", i, c.a, c.b, n, e)
		}
	}
}

// P1.1: Add, Sub and Times of any two edges.
func TestTwoEdges(t *testing.T) {
	for _, c := range []struct {
		name string
		do   func(a, b int) (int, api.Errno)
		of   func(z, x, y *big.Int) *big.Int
	}{{"Add", scaled.Add, (*big.Int).Add}, {"Sub", scaled.Sub, (*big.Int).Sub}, {"Times", scaled.Times, (*big.Int).Mul}} {
		for _, a := range edges() {
			for _, b := range edges() {
				n, e := c.do(a, b)
				if m, f := exact(a, b, c.of); n != m || e != f {
					t.Errorf("%s(%d, %d): %d, %v, not %d, %v", c.name, a, b, n, e, m, f)
				}
			}
		}
	}
}

// P1.2: Sum.
func TestSum(t *testing.T) {
	for i, c := range []struct {
		l []int
		n int
		e api.Errno
	}{
		{nil, 0, api.OK},
		{[]int{}, 0, api.OK},
		{[]int{0}, 0, api.OK},
		{[]int{7}, 7, api.OK},
		{[]int{-7}, -7, api.OK},
		{[]int{1, 2, 3, -4}, 2, api.OK},
		{[]int{most}, most, api.OK},
		{[]int{-most}, -most, api.OK},
		{[]int{most, -5, 5}, most, api.OK},
		{[]int{most, -most, -most, most}, 0, api.OK},
		{[]int{most, 5, -5}, 0, api.ErrDim},
		{[]int{-most, -1, 1}, 0, api.ErrDim},
		{[]int{-5, most, 5, 1}, 0, api.ErrDim},
		{[]int{most + 1}, 0, api.ErrDim},
		{[]int{-most - 1}, 0, api.ErrDim},
		{[]int{-1, most + 1}, 0, api.ErrDim},
		{[]int{1, 2, -most - 1}, 0, api.ErrDim},
		{[]int{math.MaxInt, math.MaxInt, 2}, 0, api.ErrDim},
		{[]int{math.MinInt, math.MinInt}, 0, api.ErrDim},
	} {
		if n, e := scaled.Sum(c.l...); n != c.n || e != c.e {
			t.Errorf("%d: %v: %d, %v", i, c.l, n, e)
		}
	}
}

// P1.2: Sum is Add of one behind the other, for any three edges.
func TestSumIsAdd(t *testing.T) {
	for _, a := range edges() {
		for _, b := range edges() {
			for _, c := range edges() {
				want := 0
				var f api.Errno
				for _, x := range []int{a, b, c} {
					if f == api.OK {
						want, f = exact(want, x, (*big.Int).Add)
					}
				}
				if n, e := scaled.Sum(a, b, c); n != want || e != f {
					t.Fatalf("%d, %d, %d: %d, %v, not %d, %v", a, b, c, n, e, want, f)
				}
			}
		}
	}
}

// P1.2: what is handed in stays as it is (R4), its spare room, too.
func TestSumKeepsList(t *testing.T) {
	room := []int{1, 2, 3, 4, 5}
	if n, e := scaled.Sum(room[:3]...); n != 6 || e != api.OK {
		t.Errorf("%d, %v", n, e)
	}
	if !slices.Equal(room, []int{1, 2, 3, 4, 5}) {
		t.Errorf("%v", room)
	}
}

// P1.3: what is added is taken away again.
func TestAddSub(t *testing.T) {
	for _, a := range edges() {
		for _, b := range edges() {
			if n, e := scaled.Add(a, b); e == api.OK {
				if m, f := scaled.Sub(n, b); m != a || f != api.OK {
					t.Errorf("%d and %d, less that: %d, %v", a, b, m, f)
				}
			}
			if n, e := scaled.Sub(a, b); e == api.OK {
				if m, f := scaled.Add(n, b); m != a || f != api.OK {
					t.Errorf("%d less %d, and that: %d, %v", a, b, m, f)
				}
			}
		}
	}
}

// P1.3: sums go in parts, as long as none is too great.
func TestSumInParts(t *testing.T) {
	for _, l := range [][]int{
		{},
		{5},
		{1, -2, 3, -4, 5, -6},
		{most, -most, most, -1, 1},
		{most / 2, most / 2, 1, -most, -most},
		{-most, most - 1, 1, 65536, -65536},
	} {
		whole, e := scaled.Sum(l...)
		if e != api.OK {
			t.Fatalf("%v: %v", l, e)
		}
		for i := range len(l) + 1 {
			a, f := scaled.Sum(l[:i]...)
			b, g := scaled.Sum(l[i:]...)
			if f != api.OK {
				t.Errorf("%v up to %d: %v", l, i, f)
			}
			if g != api.OK { // a part by itself may be too great
				continue
			}
			if n, h := scaled.Add(a, b); n != whole || h != api.OK {
				t.Errorf("%v parted at %d: %d, %v", l, i, n, h)
			}
		}
	}
}
