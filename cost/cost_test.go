package cost_test

import (
	"cmp"
	"math"
	"math/big"
	"math/rand"
	"slices"
	"sync"
	"testing"

	"compositor/api"
	"compositor/cost"
)

const (
	lines = api.MaxShare
	most  = api.MaxDem
)

// of is a cost of both its parts.
func of(unset, dem int) api.Cost { return api.Cost{Unset: unset, Dem: dem} }

// edges are costs of the numbers that the chapter's edges are about, of such as are half of them, and of such as wrap round.
func edges() []api.Cost {
	var l []api.Cost
	for _, unset := range []int{math.MinInt, -lines, -1, 0, 1, lines / 2, lines - 1, lines, lines + 1, 1 << 32, 1<<32 + 1, math.MaxInt} {
		for _, dem := range []int{math.MinInt, math.MinInt + 1, -most - 2, -most - 1, -most, 1 - most, -most/2 - 1, -most / 2, -1, 0, 1, 1 << 32, most / 2, most/2 + 1, most - 1, most, most + 1, most + 2, 1 << 61, 1 << 62, math.MaxInt} {
			l = append(l, of(unset, dem))
		}
	}
	return l
}

// some are costs with numbers of all lengths and of both signs, often of the same Unset, the same ones every time.
func some(count int) []api.Cost {
	source := rand.New(rand.NewSource(5))
	l := make([]api.Cost, count)
	for i := range l {
		l[i] = of(int(source.Uint64())>>source.Intn(64), int(source.Uint64())>>source.Intn(64))
		if i > 0 && source.Intn(2) == 0 {
			l[i].Unset = l[i-1].Unset
		}
	}
	return l
}

// within are costs that may be, of all lengths, the same ones every time.
func within(count int) []api.Cost {
	source := rand.New(rand.NewSource(55))
	l := make([]api.Cost, count)
	for i := range l {
		dem := source.Intn(most+1) >> source.Intn(60)
		if source.Intn(2) == 0 {
			dem = -dem
		}
		l[i] = of(source.Intn(lines+1)>>source.Intn(9), dem)
	}
	return l
}

// mayBe tells of both parts, as numbers that have no greatest one, whether a cost may be of them.
func mayBe(unset, dem *big.Int) bool {
	return unset.Sign() >= 0 && unset.Cmp(big.NewInt(lines)) <= 0 && dem.CmpAbs(big.NewInt(most)) <= 0
}

// plus is the sum of two numbers, which can't wrap round.
func plus(a, b int) *big.Int { return new(big.Int).Add(big.NewInt(int64(a)), big.NewInt(int64(b))) }

// added is what the chapter's words ask of Add.
func added(a, b api.Cost) (api.Cost, api.Errno) {
	unset, dem := plus(a.Unset, b.Unset), plus(a.Dem, b.Dem)
	if !checked(a) || !checked(b) || !mayBe(unset, dem) {
		return api.Cost{}, api.ErrCost
	}
	return of(int(unset.Int64()), int(dem.Int64())), api.OK
}

// checked is what the chapter's words ask of Check.
func checked(c api.Cost) bool { return mayBe(plus(c.Unset, 0), plus(c.Dem, 0)) }

// rank is a number that is greater of a cost that is: no Dem makes up for one of Unset.
func rank(c api.Cost) *big.Int {
	n := big.NewInt(int64(c.Unset))
	return n.Lsh(n, 70).Add(n, big.NewInt(int64(c.Dem)))
}

// less is what the chapter's words ask of Less.
func less(a, b api.Cost) bool { return rank(a).Cmp(rank(b)) < 0 }

// least is what the chapter's words ask of Least: each one is held against each other one.
func least(l []api.Cost) int {
	for i, c := range l {
		if !slices.ContainsFunc(l, func(d api.Cost) bool { return less(d, c) }) {
			return i
		}
	}
	return -1
}

// hold holds all calls that two costs may be handed to against the chapter's words.
func hold(t *testing.T, a, b api.Cost) {
	t.Helper()
	if is, x := cost.Check(a), checked(a); is != x {
		t.Errorf("Check(%v): %v", a, is)
	}
	c, e := cost.Add(a, b)
	if x, f := added(a, b); c != x || e != f {
		t.Errorf("Add(%v, %v): %v, %v, not %v, %v", a, b, c, e, x, f)
	}
	if is, x := cost.Less(a, b), less(a, b); is != x {
		t.Errorf("Less(%v, %v): %v", a, b, is)
	}
	holdLeast(t, a, b)
}

// holdLeast holds Least against the chapter's words.
func holdLeast(t *testing.T, l ...api.Cost) {
	t.Helper()
	if at, x := cost.Least(l...), least(l); at != x {
		t.Errorf("Least(%v): %d, not %d", l, at, x)
	}
}

// P5.1: written out.
func TestCheck(t *testing.T) {
	for i, x := range []struct {
		c  api.Cost
		is bool
	}{
		{of(0, 0), true}, {of(1, 1), true}, {of(7, -7), true}, {of(lines-1, 3), true}, {of(lines, 0), true}, {of(0, most), true}, {of(0, -most), true}, {of(lines, most), true}, {of(lines, -most), true}, {of(0, most-1), true}, {of(0, 1-most), true},
		{of(-1, 0), false}, {of(lines+1, 0), false}, {of(0, most+1), false}, {of(0, -most-1), false}, {of(-1, most), false}, {of(-1, -most), false}, {of(lines+1, most), false}, {of(lines+1, -most), false}, {of(lines, most+1), false}, {of(lines, -most-1), false}, {of(-1, most+1), false}, {of(lines+1, -most-1), false},
		{of(-lines, 0), false}, {of(1<<32, 0), false}, {of(1<<32+5, 0), false}, {of(math.MaxInt, 0), false}, {of(math.MinInt, 0), false}, {of(0, math.MaxInt), false}, {of(0, math.MinInt), false}, {of(math.MinInt, math.MinInt), false}, {of(math.MaxInt, math.MaxInt), false}, {of(most, lines), false}, {of(most, most), false},
	} {
		if is := cost.Check(x.c); is != x.is {
			t.Errorf("%d: Check(%v): %v", i, x.c, is)
		}
	}
}

// P5.1: written out.
func TestAdd(t *testing.T) {
	for i, x := range []struct{ a, b, sum api.Cost }{
		{of(0, 0), of(0, 0), of(0, 0)}, {of(1, 2), of(3, 4), of(4, 6)}, {of(3, 4), of(1, 2), of(4, 6)}, {of(1, 200), of(0, -300), of(1, -100)}, {of(0, -2), of(5, -3), of(5, -5)}, {of(2, 5), of(1, -5), of(3, 0)},
		{of(lines, 0), of(0, 0), of(lines, 0)}, {of(0, 9), of(lines, 0), of(lines, 9)}, {of(lines-1, 0), of(1, 0), of(lines, 0)}, {of(1, 0), of(lines-1, 0), of(lines, 0)}, {of(lines/2, 1), of(lines/2, 1), of(lines, 2)},
		{of(0, most), of(0, 0), of(0, most)}, {of(0, most-1), of(0, 1), of(0, most)}, {of(0, 1), of(0, most-1), of(0, most)}, {of(0, most/2), of(0, most/2+1), of(0, most)}, {of(0, most), of(0, -most), of(0, 0)}, {of(0, most), of(0, -1), of(0, most-1)},
		{of(0, -most), of(0, 0), of(0, -most)}, {of(0, 1-most), of(0, -1), of(0, -most)}, {of(0, -1), of(0, 1-most), of(0, -most)}, {of(0, -most/2), of(0, -most/2-1), of(0, -most)}, {of(0, -most), of(0, 1), of(0, 1-most)},
		{of(lines, most), of(0, 0), of(lines, most)}, {of(lines-7, most-9), of(7, 9), of(lines, most)}, {of(0, most), of(lines, 0), of(lines, most)}, {of(lines-7, 9-most), of(7, -9), of(lines, -most)}, {of(lines, -most), of(0, most), of(lines, 0)},
	} {
		if c, e := cost.Add(x.a, x.b); c != x.sum || e != api.OK {
			t.Errorf("%d: Add(%v, %v): %v, %v", i, x.a, x.b, c, e)
		}
		hold(t, x.a, x.b)
	}
}

// P5.1: what may not be, with an empty cost beside ErrCost: a sum, either one, and such as together are one that may be.
func TestAddWrong(t *testing.T) {
	for i, x := range []struct{ a, b api.Cost }{
		{of(lines, 0), of(1, 0)}, {of(lines/2, 0), of(lines/2+1, 0)}, {of(lines, 3), of(lines, 4)}, {of(lines-1, -5), of(2, 5)},
		{of(0, most), of(0, 1)}, {of(0, most/2+1), of(0, most/2+1)}, {of(0, most), of(0, most)}, {of(9, most-1), of(1, 2)},
		{of(0, -most), of(0, -1)}, {of(0, -most/2-1), of(0, -most/2-1)}, {of(0, -most), of(0, -most)}, {of(9, 1-most), of(1, -2)},
		{of(lines, most), of(1, 1)}, {of(lines, -most), of(1, -1)}, {of(lines, most), of(lines, most)}, {of(lines, most), of(1, -1)}, {of(lines, -1), of(0, -most)},
		{of(-1, 0), of(0, 0)}, {of(-1, 0), of(1, 0)}, {of(-1, 5), of(2, 5)}, {of(-lines, 0), of(lines, 0)}, {of(-1, 0), of(-1, 0)},
		{of(lines+1, 0), of(0, 0)}, {of(lines+1, 0), of(-1, 0)}, {of(lines+1, 0), of(-lines-1, 0)}, {of(2*lines, 1), of(-lines, 1)},
		{of(0, most+1), of(0, 0)}, {of(0, most+1), of(0, -1)}, {of(3, most+1), of(4, -most)}, {of(0, most+1), of(0, -most-1)},
		{of(0, -most-1), of(0, 0)}, {of(0, -most-1), of(0, 1)}, {of(3, -most-1), of(4, most)},
		{of(math.MaxInt, 0), of(math.MinInt, 0)}, {of(math.MaxInt, 0), of(math.MaxInt, 0)}, {of(math.MinInt, 0), of(math.MinInt, 0)}, {of(math.MinInt, 5), of(math.MinInt, -5)}, {of(math.MaxInt, 0), of(-math.MaxInt, 0)},
		{of(0, math.MaxInt), of(0, math.MinInt)}, {of(0, math.MaxInt), of(0, math.MaxInt)}, {of(0, math.MinInt), of(0, math.MinInt)}, {of(5, math.MinInt), of(5, math.MinInt)}, {of(0, 1<<62), of(0, 1<<62)}, {of(0, 3<<61), of(0, 5<<60)}, {of(1<<32, 0), of(-1<<32, 0)},
		{of(math.MaxInt, math.MaxInt), of(math.MinInt, math.MinInt)}, {of(math.MinInt, math.MinInt), of(math.MinInt, math.MinInt)},
	} {
		for _, y := range [][2]api.Cost{{x.a, x.b}, {x.b, x.a}} {
			if c, e := cost.Add(y[0], y[1]); c != (api.Cost{}) || e != api.ErrCost {
				t.Errorf("%d: Add(%v, %v): %v, %v", i, y[0], y[1], c, e)
			}
			hold(t, y[0], y[1])
		}
	}
}

// P5.2: written out; of costs that may not be, too.
func TestLess(t *testing.T) {
	for i, x := range []struct{ a, b api.Cost }{
		{of(0, 9), of(1, 0)}, {of(0, 0), of(1, 0)}, {of(0, 0), of(0, 1)}, {of(0, -1), of(0, 0)}, {of(0, -1), of(0, 1)}, {of(0, -2), of(0, -1)}, {of(5, 3), of(5, 4)}, {of(2, 7), of(3, 7)}, {of(2, 8), of(3, 7)}, {of(2, 7), of(3, 8)},
		{of(0, most), of(1, -most)}, {of(0, most), of(lines, -most)}, {of(lines-1, most), of(lines, -most)}, {of(lines, -most), of(lines, most)}, {of(lines, most-1), of(lines, most)}, {of(lines, -most), of(lines, 1-most)}, {of(0, -most), of(0, most)}, {of(0, -most), of(lines, most)}, {of(0, 1<<32), of(0, 1<<32+1)},
		{of(lines, 0), of(lines+1, 0)}, {of(lines, most), of(lines, most+1)}, {of(lines, -most-1), of(lines, -most)}, {of(-1, 0), of(0, 0)}, {of(-1, most), of(0, -most)}, {of(lines, most), of(lines+1, -most-1)},
		{of(math.MinInt, 0), of(math.MaxInt, 0)}, {of(math.MinInt, 0), of(1, 0)}, {of(-2, 0), of(math.MaxInt, 0)}, {of(0, math.MinInt), of(0, math.MaxInt)}, {of(0, math.MinInt), of(0, 1)}, {of(0, -2), of(0, math.MaxInt)}, {of(math.MinInt, math.MaxInt), of(math.MaxInt, math.MinInt)}, {of(math.MaxInt-1, math.MaxInt), of(math.MaxInt, math.MinInt)},
	} {
		if !cost.Less(x.a, x.b) || cost.Less(x.b, x.a) || cost.Less(x.a, x.a) || cost.Less(x.b, x.b) {
			t.Errorf("%d: %v is less than %v", i, x.a, x.b)
		}
		hold(t, x.a, x.b)
		hold(t, x.b, x.a)
	}
}

// P5.2: written out: none, one, several, and some that are one.
func TestLeastWrittenOut(t *testing.T) {
	for i, x := range []struct {
		l  []api.Cost
		at int
	}{
		{nil, -1}, {[]api.Cost{}, -1},
		{[]api.Cost{of(0, 0)}, 0}, {[]api.Cost{of(5, 5)}, 0}, {[]api.Cost{of(0, -5)}, 0}, {[]api.Cost{of(lines, most)}, 0}, {[]api.Cost{of(lines+1, most+1)}, 0}, {[]api.Cost{of(math.MaxInt, math.MaxInt)}, 0}, {[]api.Cost{of(math.MinInt, math.MinInt)}, 0},
		{[]api.Cost{of(0, 0), of(0, 0)}, 0}, {[]api.Cost{of(3, 4), of(3, 4), of(3, 4)}, 0}, {[]api.Cost{of(math.MaxInt, math.MaxInt), of(math.MaxInt, math.MaxInt)}, 0},
		{[]api.Cost{of(0, 1), of(0, 2)}, 0}, {[]api.Cost{of(0, 2), of(0, 1)}, 1}, {[]api.Cost{of(1, 0), of(0, 9)}, 1}, {[]api.Cost{of(0, 9), of(1, 0)}, 0}, {[]api.Cost{of(1, -most), of(0, most)}, 1},
		{[]api.Cost{of(2, 1), of(1, 2), of(1, 1), of(2, 0)}, 2}, {[]api.Cost{of(2, 1), of(1, 1), of(1, 1), of(2, 0)}, 1}, {[]api.Cost{of(1, 1), of(1, 1), of(0, 3), of(0, 3), of(0, 3), of(0, 4)}, 2}, {[]api.Cost{of(1, 1), of(2, 2), of(1, 1)}, 0}, {[]api.Cost{of(4, 4), of(1, 1), of(2, 2), of(1, 1)}, 1},
		{[]api.Cost{of(0, 3), of(0, 2), of(0, 1), of(0, 0), of(0, -1)}, 4}, {[]api.Cost{of(3, 0), of(2, 0), of(1, 0), of(0, 0)}, 3}, {[]api.Cost{of(0, 5), of(1, 4), of(2, 3), of(3, 2)}, 0}, {[]api.Cost{of(0, 1), of(0, -1), of(0, 1), of(0, -1)}, 1},
		{[]api.Cost{of(0, 0), of(-1, 0)}, 1}, {[]api.Cost{of(0, 0), of(-1, most+1), of(-1, most+1)}, 1}, {[]api.Cost{of(0, 1), of(0, math.MinInt)}, 1}, {[]api.Cost{of(1, 0), of(math.MinInt, 0)}, 1}, {[]api.Cost{of(math.MaxInt, math.MaxInt), of(math.MaxInt, math.MinInt), of(math.MinInt, math.MaxInt), of(math.MinInt, math.MinInt)}, 3},
	} {
		if at := cost.Least(x.l...); at != x.at {
			t.Errorf("%d: Least(%v): %d, not %d", i, x.l, at, x.at)
		}
		holdLeast(t, x.l...)
	}
	if at := cost.Least(); at != -1 {
		t.Errorf("Least(): %d", at)
	}
	if at := cost.Least(of(1, 1), of(0, 2), of(0, 2)); at != 1 {
		t.Errorf("%d", at)
	}
}

// P5.1, P5.2: any two of the chapter's edges.
func TestEdges(t *testing.T) {
	for _, a := range edges() {
		for _, b := range edges() {
			hold(t, a, b)
		}
	}
}

// P5.1, P5.2: small costs, and costs of all lengths, wrong ones too.
func TestSome(t *testing.T) {
	for n := range 5 * 5 * 5 * 5 {
		hold(t, of(n%5-1, n/5%5-2), of(n/25%5-1, n/125%5-2))
	}
	for _, l := range [][]api.Cost{some(20000), within(20000)} {
		for i := 0; i+1 < len(l); i += 2 {
			hold(t, l[i], l[i+1])
		}
	}
}

// P5.2: the least one at any place of lists of any length, some of them one, and small lists, one and all.
func TestLeast(t *testing.T) {
	source := rand.New(rand.NewSource(555))
	for _, l := range [][]api.Cost{edges(), some(300), within(300)} {
		for n := range 80 {
			list := slices.Clone(l[:n])
			holdLeast(t, list...)
			for range 5 {
				source.Shuffle(n, func(i, j int) { list[i], list[j] = list[j], list[i] })
				holdLeast(t, list...)
				holdLeast(t, append(slices.Clone(list), list...)...)
			}
		}
		holdLeast(t, l...)
	}
	few := []api.Cost{of(0, 0), of(0, 1), of(0, -1), of(1, 0), of(1, -1), of(-1, 1)}
	for n := range 6 * 6 * 6 * 6 {
		l := []api.Cost{few[n%6], few[n/6%6], few[n/36%6], few[n/216%6]}
		holdLeast(t, l...)
		holdLeast(t, l[:3]...)
	}
}

// P5.2: of very many that are one the first, and one that is less wherever it stands.
func TestLeastFirst(t *testing.T) {
	for _, c := range []api.Cost{of(0, 0), of(1, -1), of(lines, most), of(math.MaxInt, math.MaxInt)} {
		l := slices.Repeat([]api.Cost{c}, 5000)
		if at := cost.Least(l...); at != 0 {
			t.Errorf("%v: %d", c, at)
		}
		for _, at := range []int{0, 1, 2500, 4998, 4999} {
			for _, d := range []api.Cost{of(c.Unset, c.Dem-1), of(c.Unset-1, c.Dem)} {
				list := slices.Clone(l)
				list[at] = d
				list[4999] = d
				if n := cost.Least(list...); n != at {
					t.Errorf("%v, %v at %d: %d", c, d, at, n)
				}
			}
		}
	}
}

// P5.3: of any two just one is less, or they are one; and what is less than a lesser one is less.
func TestOneOfThree(t *testing.T) {
	l := append(edges(), some(200)...)
	l = append(l, within(200)...)
	for _, a := range l {
		for _, b := range l {
			n := 0
			for _, is := range []bool{cost.Less(a, b), cost.Less(b, a), a == b} {
				if is {
					n++
				}
			}
			if n != 1 {
				t.Fatalf("%v, %v: %v, %v", a, b, cost.Less(a, b), cost.Less(b, a))
			}
		}
	}
	slices.SortFunc(l, func(a, b api.Cost) int {
		return cmp.Or(cmp.Compare(a.Unset, b.Unset), cmp.Compare(a.Dem, b.Dem))
	})
	for i := range l {
		for j := range i {
			if cost.Less(l[i], l[j]) {
				t.Fatalf("%v is less than %v", l[i], l[j])
			}
		}
	}
}

// P5.3: what is added to both, or to all, does not matter, as long as the sums may be.
func TestAddedToBoth(t *testing.T) {
	l := within(120)
	for _, c := range edges() {
		if cost.Check(c) {
			l = append(l, c)
		}
	}
	held := 0
	for _, more := range l {
		var ones, sums []api.Cost
		for _, a := range l {
			if sum, e := cost.Add(a, more); e == api.OK {
				ones, sums = append(ones, a), append(sums, sum)
			}
		}
		for i := range ones {
			for j := range ones {
				held++
				if cost.Less(ones[i], ones[j]) != cost.Less(sums[i], sums[j]) {
					t.Fatalf("%v and %v, with %v", ones[i], ones[j], more)
				}
			}
		}
		if cost.Least(ones...) != cost.Least(sums...) {
			t.Fatalf("with %v another one is the least", more)
		}
	}
	if held < 1000000 {
		t.Errorf("only %d were held", held)
	}
}

// P5.3: which one is added to which does not matter, either, and nothing is added by an empty one.
func TestAddedInParts(t *testing.T) {
	l := append(edges(), some(100)...)
	for _, a := range append(l, within(100)...) {
		if c, e := cost.Add(a, api.Cost{}); cost.Check(a) && (c != a || e != api.OK) {
			t.Errorf("%v: %v, %v", a, c, e)
		}
		for _, b := range l {
			c, e := cost.Add(a, b)
			d, f := cost.Add(b, a)
			if c != d || e != f {
				t.Fatalf("%v and %v: %v, %v; %v, %v", a, b, c, e, d, f)
			}
		}
	}
}

// R4, for P5.2: what is handed in stays as it is, its spare room too.
func TestMemory(t *testing.T) {
	for n := range 30 {
		room := append(within(n), some(30)...)
		was := slices.Clone(room)
		cost.Least(room[:n]...)
		if !slices.Equal(room, was) {
			t.Errorf("%d: %v is left", n, room)
		}
		for i := range room {
			room[i] = of(0, math.MinInt)
		}
		holdLeast(t, was[:n]...)
	}
}

// R5, for P5.1, P5.2: answers hang on what is handed in alone, not on what was asked ahead of it, or is asked at once.
func TestAtOnce(t *testing.T) {
	l := within(200)
	var all sync.WaitGroup
	for n := range 8 {
		all.Go(func() {
			for i := range l {
				hold(t, l[i], l[(i*n+n)%len(l)])
				holdLeast(t, l[i:i+(len(l)-i)/4]...)
			}
		})
	}
	all.Wait()
}
