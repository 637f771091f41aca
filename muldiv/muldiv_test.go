package muldiv_test

import (
	"math"
	"math/big"
	"math/rand"
	"slices"
	"testing"

	"compositor/api"
	"compositor/muldiv"
)

const most = api.MaxWide

// odd is a seventh of 2^63 - 1: seven of it over 2 is MaxWide, and a half.
const odd = math.MaxInt / 7

// edges are the numbers that the chapter's edges are about, those at which halves of words and of products meet, and ordinary ones.
func edges() []int {
	l := []int{0, 1, 2, 3, 7, 10, 1000, 1<<31 - 1, 1 << 31, 1<<31 + 1, 1<<32 - 1, 1 << 32, 1<<32 + 1, odd, most/2 - 1, most / 2, most/2 + 1, most - 1, most, most + 1, math.MaxInt - 1, math.MaxInt}
	for _, n := range slices.Clone(l) {
		l = append(l, -n)
	}
	return append(l, math.MinInt)
}

// some are numbers of all lengths and of both signs, the same ones every time.
func some(count int) []int {
	source := rand.New(rand.NewSource(2))
	l := make([]int, count)
	for i := range l {
		l[i] = int(source.Uint64()) >> source.Intn(64)
	}
	return l
}

func mayBe(a, b, c int) bool {
	return -most <= a && a <= most && -most <= b && b <= most && 1 <= c && c <= most
}

// answer is what a call has to answer of a number that has no greatest one.
func answer(n *big.Int) (int, api.Errno) {
	if n.CmpAbs(big.NewInt(most)) > 0 {
		return 0, api.ErrWide
	}
	return int(n.Int64()), api.OK
}

// floored is a over c, floored, and what that leaves, by Euclid's division: c is above 0.
func floored(a, c *big.Int) (*big.Int, *big.Int) {
	return new(big.Int).DivMod(a, c, new(big.Int))
}

// hold holds all three calls against the chapter's words, by numbers that have no greatest one.
func hold(t *testing.T, a, b, c int) {
	t.Helper()
	n, e := muldiv.Floor(a, b, c)
	m, f := muldiv.Nearest(a, b, c)
	r, g := muldiv.Rest(a, b, c)
	if !mayBe(a, b, c) {
		if n != 0 || m != 0 || r != 0 || e != api.ErrArg || f != api.ErrArg || g != api.ErrArg {
			t.Errorf("%d, %d, %d: %d, %v; %d, %v; %d, %v", a, b, c, n, e, m, f, r, g)
		}
		return
	}
	two, by := big.NewInt(2), big.NewInt(int64(c))
	product := new(big.Int).Mul(big.NewInt(int64(a)), big.NewInt(int64(b)))
	floor, rest := floored(product, by)
	if x, z := answer(floor); n != x || e != z {
		t.Errorf("Floor(%d, %d, %d): %d, %v, not %d, %v", a, b, c, n, e, x, z)
	}
	if x := int(rest.Int64()); r != x || g != api.OK {
		t.Errorf("Rest(%d, %d, %d): %d, %v, not %d", a, b, c, r, g, x)
	}
	twice := new(big.Int).Mul(two, product)
	nearest, _ := floored(twice.Add(twice, by), new(big.Int).Mul(two, by))
	if x, z := answer(nearest); m != x || f != z {
		t.Errorf("Nearest(%d, %d, %d): %d, %v, not %d, %v", a, b, c, m, f, x, z)
	}
}

// P2.1, P2.2: written out. A rest goes with a Floor that is too great, too.
func TestWrittenOut(t *testing.T) {
	for i, x := range []struct {
		a, b, c    int
		n, m, rest int
		e, f       api.Errno
	}{
		{7, 1, 2, 3, 4, 1, api.OK, api.OK},
		{-7, 1, 2, -4, -3, 1, api.OK, api.OK},
		{7, -1, 2, -4, -3, 1, api.OK, api.OK},
		{-7, -1, 2, 3, 4, 1, api.OK, api.OK},
		{-8, 1, 2, -4, -4, 0, api.OK, api.OK},
		{7, 1, 3, 2, 2, 1, api.OK, api.OK},
		{8, 1, 3, 2, 3, 2, api.OK, api.OK},
		{-7, 1, 3, -3, -2, 2, api.OK, api.OK},
		{-8, 1, 3, -3, -3, 1, api.OK, api.OK},
		{10, 10, 7, 14, 14, 2, api.OK, api.OK},
		{1, 1, most, 0, 0, 1, api.OK, api.OK},
		{-1, 1, most, -1, 0, most - 1, api.OK, api.OK},
		{1, most / 2, most, 0, 0, most / 2, api.OK, api.OK},
		{1, most/2 + 1, most, 0, 1, most/2 + 1, api.OK, api.OK},
		{-1, most/2 + 1, most, -1, -1, most / 2, api.OK, api.OK},
		{1, most / 2, most - 1, 0, 1, most / 2, api.OK, api.OK},
		{-1, most / 2, most - 1, -1, 0, most / 2, api.OK, api.OK},
		{0, 0, 1, 0, 0, 0, api.OK, api.OK},
		{0, -5, most, 0, 0, 0, api.OK, api.OK},
		{0, most, 1, 0, 0, 0, api.OK, api.OK},
		{most, 1, 1, most, most, 0, api.OK, api.OK},
		{most, -1, 1, -most, -most, 0, api.OK, api.OK},
		{most, most, most, most, most, 0, api.OK, api.OK},
		{most, -most, most, -most, -most, 0, api.OK, api.OK},
		{-most, -most, most, most, most, 0, api.OK, api.OK},
		{1 << 61, 2, 1, 0, 0, 0, api.ErrWide, api.ErrWide},
		{1 << 61, -2, 1, 0, 0, 0, api.ErrWide, api.ErrWide},
		{most, most, 1, 0, 0, 0, api.ErrWide, api.ErrWide},
		{most, -most, 1, 0, 0, 0, api.ErrWide, api.ErrWide},
		{most, most, most - 1, 0, 0, 1, api.ErrWide, api.ErrWide},
		{most, -most, most - 1, 0, 0, most - 2, api.ErrWide, api.ErrWide},
		{1 << 32, 1 << 32, 1, 0, 0, 0, api.ErrWide, api.ErrWide},
		{1 << 32, 1 << 32, 1 << 32, 1 << 32, 1 << 32, 0, api.OK, api.OK},
		{1 << 32, 1 << 32, 7, 2635249153387078802, 2635249153387078802, 2, api.OK, api.OK},
		{7, odd, 2, most, 0, 1, api.OK, api.ErrWide},
		{-7, odd, 2, 0, -most, 1, api.ErrWide, api.OK},
		{7, odd - 1, 2, most - 3, most - 3, 0, api.OK, api.OK},
	} {
		if k, e := muldiv.Floor(x.a, x.b, x.c); k != x.n || e != x.e {
			t.Errorf("%d: Floor(%d, %d, %d): %d, %v", i, x.a, x.b, x.c, k, e)
		}
		if k, e := muldiv.Nearest(x.a, x.b, x.c); k != x.m || e != x.f {
			t.Errorf("%d: Nearest(%d, %d, %d): %d, %v", i, x.a, x.b, x.c, k, e)
		}
		if k, e := muldiv.Rest(x.a, x.b, x.c); k != x.rest || e != api.OK {
			t.Errorf("%d: Rest(%d, %d, %d): %d, %v", i, x.a, x.b, x.c, k, e)
		}
	}
}

// P2.1, P2.2: numbers that may not be, with 0 beside ErrArg, which goes ahead of ErrWide.
func TestWrong(t *testing.T) {
	calls := []func(a, b, c int) (int, api.Errno){muldiv.Floor, muldiv.Nearest, muldiv.Rest}
	for _, x := range [][3]int{
		{1, 1, 0}, {0, 0, 0}, {1, 1, -1}, {1, 1, -most}, {1, 1, most + 1}, {1, 1, math.MaxInt}, {1, 1, math.MinInt},
		{most + 1, 1, 1}, {1, most + 1, 1}, {-most - 1, 1, 1}, {1, -most - 1, 1},
		{most + 1, 0, 1}, {0, -most - 1, 1}, {most + 1, 1, most}, {1, most + 1, most},
		{math.MinInt, 1, 1}, {1, math.MinInt, 1}, {math.MinInt, math.MinInt, most}, {math.MinInt, 0, 1}, {math.MinInt, -1, 1},
		{math.MaxInt, 1, 2}, {1, math.MaxInt, 2}, {math.MaxInt, math.MinInt, math.MaxInt},
		{most, most, 0}, {most, most, -1}, {most, most + 1, 1}, {-most - 1, most, 1},
	} {
		for i, do := range calls {
			if n, e := do(x[0], x[1], x[2]); n != 0 || e != api.ErrArg {
				t.Errorf("%d: %v: %d, %v", i, x, n, e)
			}
		}
	}
}

// P2.1, P2.2: any three edges.
func TestEdges(t *testing.T) {
	l := edges()
	for _, a := range l {
		for _, b := range l {
			for _, c := range l {
				hold(t, a, b, c)
			}
		}
	}
}

// P2.1, P2.2: small numbers, one and all: every sign, every rest, and every half.
func TestSmall(t *testing.T) {
	for a := -20; a <= 20; a++ {
		for b := -20; b <= 20; b++ {
			for c := -2; c <= 20; c++ {
				hold(t, a, b, c)
			}
		}
	}
}

// P2.1, P2.2: numbers of all lengths.
func TestSome(t *testing.T) {
	l := some(30000)
	for i := 0; i+2 < len(l); i += 3 {
		hold(t, l[i], l[i+1], l[i+2])
	}
}

// P2.1, P2.2: quotients at the greatest, and least, that may be, with every rest of some divisors.
func TestJustWide(t *testing.T) {
	for _, c := range []int{1, 2, 3, 4, 7, 1000, 1 << 32, most / 2, most - 1, most} {
		for _, a := range []int{1, 2, c - 1, c, most/3 + 1, most - 1, most} {
			if a < 1 {
				continue
			}
			middle := new(big.Int).Mul(big.NewInt(most), big.NewInt(int64(c)))
			middle.Quo(middle, big.NewInt(int64(a)))
			if !middle.IsInt64() || middle.Int64() > math.MaxInt-8 {
				continue
			}
			for d := -8; d <= 8; d++ {
				b := int(middle.Int64()) + d
				hold(t, a, b, c)
				hold(t, -a, b, c)
				hold(t, a, -b, c)
				hold(t, -a, -b, c)
			}
		}
	}
}

// P2.3: a rest is 0 to c - 1, and Nearest is Floor, or, just if twice the rest is not below c, one more.
func TestFollows(t *testing.T) {
	l := append(edges(), some(60)...)
	for _, a := range l {
		for _, b := range l {
			for _, c := range l {
				rest, e := muldiv.Rest(a, b, c)
				if e != api.OK {
					continue
				}
				if rest < 0 || rest >= c {
					t.Fatalf("Rest(%d, %d, %d): %d", a, b, c, rest)
				}
				n, f := muldiv.Floor(a, b, c)
				m, g := muldiv.Nearest(a, b, c)
				up := 0
				if 2*rest >= c {
					up = 1
				}
				switch {
				case f == api.OK && g == api.OK && m == n+up:
				case f == api.OK && g == api.ErrWide && up == 1 && n == most:
				case f == api.ErrWide && g == api.OK && up == 1 && m == -most:
				case f == api.ErrWide && g == api.ErrWide:
				default:
					t.Fatalf("%d, %d, %d: %d, %v, and %d, %v, with a rest of %d", a, b, c, n, f, m, g, rest)
				}
			}
		}
	}
}
