package bad_test

import (
	"math"
	"math/big"
	"math/rand"
	"sort"
	"testing"

	"compositor/api"
	"compositor/bad"
)

const most = api.MaxDim

// dims are the numbers that the chapter's edges are about, those at which cubes get longer than a word, and ordinary ones.
func dims() []int {
	l := []int{math.MinInt, math.MinInt + 1, -most - 1, -most, -100, -2, -1, 0, 1, 2, 3, 4, 5, 7, 10, 99, 100, 101, 1000, 65536, 1 << 20}
	l = append(l, 358012, 358013, 358607, 358608, 451067, 451068, 451817, 451818) // 200 cubes, or 201, of 63 and 64 bits, and of more
	l = append(l, 2097151, 2097152, 2642245, 2642246)                             // a cube of so many bits, and of more
	l = append(l, most/5, most/4-1, most/4, most/4+1, most/3, most/2, most/2+1, most-2, most-1)
	return append(l, most, most+1, most+2, 1<<31-1, 1<<31, 1<<32, 1<<32+1, 1<<62, math.MaxInt-1, math.MaxInt)
}

// some are numbers of all lengths and of both signs, the same ones every time.
func some(count int) []int {
	source := rand.New(rand.NewSource(3))
	l := make([]int, count)
	for i := range l {
		l[i] = int(source.Uint64()) >> source.Intn(64)
	}
	return l
}

// within are numbers from 1 to MaxDim, of all lengths, the same ones every time.
func within(count int) []int {
	source := rand.New(rand.NewSource(33))
	l := make([]int, count)
	for i := range l {
		l[i] = max(1, source.Intn(most+1)>>source.Intn(30))
	}
	return l
}

func cube(n int) *big.Int {
	return new(big.Int).Exp(big.NewInt(int64(n)), big.NewInt(3), nil)
}

// asked is what the chapter's words ask of Bad, by numbers that have no greatest one.
func asked(t, s int) int {
	t, s = min(max(t, 0), most), min(max(s, 0), most)
	if t == 0 {
		return 0
	}
	if s == 0 {
		return api.MaxBad
	}
	n := cube(t)
	n.Mul(n, big.NewInt(200)).Add(n, cube(s))
	by := cube(s)
	n.Quo(n, by.Mul(by, big.NewInt(2)))
	if n.Cmp(big.NewInt(api.MaxBad)) > 0 {
		return api.MaxBad
	}
	return int(n.Int64())
}

func hold(t *testing.T, much, room int) {
	t.Helper()
	if n, x := bad.Bad(much, room), asked(much, room); n != x {
		t.Errorf("Bad(%d, %d): %d, not %d", much, room, n, x)
	}
}

// P3.1: written out.
func TestWrittenOut(t *testing.T) {
	for i, x := range []struct{ much, room, n int }{
		{1, 2, 13}, {most / 2, most - 1, 13}, {most/2 - 1, most - 1, 12}, {1 << 28, 1 << 29, 13}, {1<<28 - 1, 1 << 29, 12},
		{0, 0, 0}, {0, 1, 0}, {0, most, 0}, {0, -1, 0}, {-1, 0, 0}, {-1, -1, 0}, {-1, 5, 0}, {-most, 1, 0}, {math.MinInt, math.MinInt, 0}, {math.MinInt, 1, 0}, {0, math.MaxInt, 0},
		{1, 0, api.MaxBad}, {most, 0, api.MaxBad}, {1, -1, api.MaxBad}, {most, -most, api.MaxBad}, {1, math.MinInt, api.MaxBad}, {math.MaxInt, math.MinInt, api.MaxBad}, {math.MaxInt, 0, api.MaxBad},
		{1, 1, 100}, {7, 7, 100}, {most, most, 100}, {most + 1, most, 100}, {most, most + 1, 100}, {math.MaxInt, most, 100}, {most, math.MaxInt, 100}, {math.MaxInt, math.MaxInt, 100}, {1 << 31, 1 << 31, 100},
		{1, 3, 4}, {1, 4, 2}, {1, 5, 1}, {1, 6, 0}, {2, 1, 800}, {3, 1, 2700}, {4, 1, 6400}, {5, 1, api.MaxBad}, {9, 2, 9113}, {1, most, 0}, {most, 1, api.MaxBad},
		{17, 100, 0}, {18, 100, 1}, {49, 100, 12}, {50, 100, 13}, {99, 100, 97}, {998, 1000, 99}, {999, 1000, 100}, {1000, 1001, 100}, {101, 100, 103},
		{46415, 10000, 9999}, {46416, 10000, api.MaxBad}, {464151, 100000, 9999}, {464152, 100000, api.MaxBad}, {464166, 100000, api.MaxBad}, {464168, 100000, api.MaxBad}, {464200, 100000, api.MaxBad},
		{most, 231334518, api.MaxBad}, {most, 231334519, 9999}, {most, 231400000, 9991}, {most, 200000000, api.MaxBad},
	} {
		if n := bad.Bad(x.much, x.room); n != x.n {
			t.Errorf("%d: Bad(%d, %d): %d, not %d", i, x.much, x.room, n, x.n)
		}
	}
}

// P3.1: any two edges, and any two small numbers.
func TestEdges(t *testing.T) {
	for _, much := range dims() {
		for _, room := range dims() {
			hold(t, much, room)
		}
	}
	for much := -3; much <= 150; much++ {
		for room := -3; room <= 150; room++ {
			hold(t, much, room)
		}
	}
}

// P3.1: numbers of all lengths, wrong ones too.
func TestSome(t *testing.T) {
	for _, l := range [][]int{some(20000), within(60000)} {
		for i := 0; i+1 < len(l); i += 2 {
			hold(t, l[i], l[i+1])
		}
	}
}

// P3.1: every badness is reached, if there is room for it, and it goes up where the words say, for great numbers and small ones.
func TestUp(t *testing.T) {
	rooms := append(within(40), 1, 2, 3, 10, 1000, 1<<20, 231334518, 231334519, most/4, most/2, most-1, most)
	for _, room := range rooms {
		for b := 1; b <= api.MaxBad; b += 1 + b/10 {
			up(t, b, room)
		}
		for _, b := range []int{12, 13, 14, 99, 100, 101, 800, api.MaxBad - 2, api.MaxBad - 1, api.MaxBad} {
			up(t, b, room)
		}
	}
}

// up holds the call at the least number that is so bad, or worse, and at both beside it.
func up(t *testing.T, b, room int) {
	t.Helper()
	least := sort.Search(most, func(n int) bool { return asked(n, room) >= b })
	for _, n := range []int{least - 1, least, least + 1} {
		hold(t, n, room)
	}
}

// P3.1: where 200 cubes and one are just as much as the bound, the greater one it is.
func TestHalves(t *testing.T) {
	for _, k := range within(2000) {
		for _, x := range [][3]int{{1, 2, 13}, {3, 2, 338}, {7, 2, 4288}, {9, 2, 9113}} {
			if k > most/max(x[0], x[1]) {
				continue
			}
			much, room := k*x[0], k*x[1]
			if n := bad.Bad(much, room); n != x[2] {
				t.Errorf("Bad(%d, %d): %d, not %d", much, room, n, x[2])
			}
			if n := bad.Bad(much-1, room); n >= x[2] {
				t.Errorf("Bad(%d, %d): %d", much-1, room, n)
			}
		}
	}
}

// P3.2: all classes, at their bounds, and at numbers that no badness is.
func TestFit(t *testing.T) {
	for i, x := range []struct{ n, shrinks, not int }{
		{0, 1, 1}, {1, 1, 1}, {11, 1, 1}, {12, 1, 1}, {13, 0, 2}, {14, 0, 2}, {50, 0, 2}, {98, 0, 2}, {99, 0, 2}, {100, 0, 3}, {101, 0, 3}, {1000, 0, 3},
		{api.MaxBad - 1, 0, 3}, {api.MaxBad, 0, 3}, {api.MaxBad + 1, 0, 3}, {most, 0, 3}, {most + 1, 0, 3}, {1 << 32, 0, 3}, {1<<32 + 12, 0, 3}, {math.MaxInt, 0, 3},
		{-1, 1, 1}, {-13, 1, 1}, {-100, 1, 1}, {-api.MaxBad, 1, 1}, {-most - 1, 1, 1}, {-1 << 32, 1, 1}, {-1<<32 + 50, 1, 1}, {math.MinInt, 1, 1},
	} {
		if n := bad.Fit(x.n, true); n != x.shrinks {
			t.Errorf("%d: Fit(%d, true): %d", i, x.n, n)
		}
		if n := bad.Fit(x.n, false); n != x.not {
			t.Errorf("%d: Fit(%d, false): %d", i, x.n, n)
		}
	}
}

// P3.3: a greater t is no less bad, a greater s no worse; and all are from 0 to MaxBad.
func TestFollows(t *testing.T) {
	l := append(dims(), some(100)...)
	l = append(l, within(100)...)
	sort.Ints(l)
	for i, much := range l {
		for j, room := range l {
			n := bad.Bad(much, room)
			if n < 0 || n > api.MaxBad {
				t.Fatalf("Bad(%d, %d): %d", much, room, n)
			}
			if i > 0 && bad.Bad(l[i-1], room) > n {
				t.Errorf("Bad(%d, %d) is above Bad(%d, %d)", l[i-1], room, much, room)
			}
			if j > 0 && bad.Bad(much, l[j-1]) < n {
				t.Errorf("Bad(%d, %d) is below Bad(%d, %d)", much, l[j-1], much, room)
			}
		}
	}
	for much := 1; much < 300; much++ {
		for _, room := range []int{1, 37, 64, most/300 - 1, most / 300} {
			n := bad.Bad(much*room, 64*room)
			if n < bad.Bad(much*room-1, 64*room) || n < bad.Bad(much*room, 64*room+1) || n != bad.Bad(much, 64) {
				t.Errorf("Bad(%d, %d): %d", much*room, 64*room, n)
			}
		}
	}
}

// P3.3: t of s is 100 bad.
func TestAll(t *testing.T) {
	for _, n := range append(within(20000), 1, 2, 358012, 358013, 451067, 451068, 2642245, 2642246, most-1, most, most+1, 1<<31, math.MaxInt) {
		if b := bad.Bad(n, n); b != 100 {
			t.Errorf("Bad(%d, %d): %d", n, n, b)
		}
	}
}
