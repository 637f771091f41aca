package share_test

import (
	"math"
	"math/big"
	"math/rand"
	"slices"
	"sync"
	"testing"

	"compositor/api"
	"compositor/share"
)

const (
	most  = api.MaxDim
	count = api.MaxShare
)

// calls are both calls, for what holds of either.
var calls = []func(total int, weights []int) ([]int, api.Errno){share.Split, share.Ends}

// same is a list of one number.
func same(n, times int) []int { return slices.Repeat([]int{n}, times) }

// put is a list with one number in another's place.
func put(l []int, at, n int) []int {
	l = slices.Clone(l)
	l[at] = n
	return l
}

// mayBe tells in the chapter's words whether there is no ErrArg.
func mayBe(total int, weights []int) bool {
	wrong := func(n int) bool { return n < 0 || n > most }
	other := func(n int) bool { return n != 0 }
	return !wrong(total) && len(weights) <= count && !slices.ContainsFunc(weights, wrong) && (total == 0 || slices.ContainsFunc(weights, other))
}

// floors are the weights' floors and rests, by numbers that have no greatest one.
func floors(total int, weights []int) ([]int, []*big.Int) {
	all := new(big.Int)
	for _, w := range weights {
		all.Add(all, big.NewInt(int64(w)))
	}
	var l []int
	var rests []*big.Int
	for _, w := range weights {
		n := new(big.Int).Mul(big.NewInt(int64(total)), big.NewInt(int64(w)))
		left := new(big.Int)
		n.DivMod(n, all, left)
		l, rests = append(l, int(n.Int64())), append(rests, left)
	}
	return l, rests
}

// asked is what the chapter's words ask of Split, where it has no error: each one that is missing is handed out by itself.
func asked(total int, weights []int) []int {
	if total == 0 {
		return make([]int, len(weights))
	}
	parts, rests := floors(total, weights)
	missing := total
	for _, part := range parts {
		missing -= part
	}
	for ; missing > 0; missing-- {
		at := -1
		for i, left := range rests {
			if left != nil && (at < 0 || left.Cmp(rests[at]) > 0) {
				at = i
			}
		}
		parts[at]++
		rests[at] = nil // it has got its one
	}
	return parts
}

// added are the sums up to each.
func added(l []int) []int {
	ends, end := []int{}, 0
	for _, n := range l {
		end += n
		ends = append(ends, end)
	}
	return ends
}

// hold holds both calls against the chapter's words.
func hold(t *testing.T, total int, weights []int) {
	t.Helper()
	parts, e := share.Split(total, weights)
	ends, f := share.Ends(total, weights)
	if !mayBe(total, weights) {
		if len(parts) != 0 || len(ends) != 0 || e != api.ErrArg || f != api.ErrArg {
			t.Errorf("%d by %v: %v, %v; %v, %v", total, weights, parts, e, ends, f)
		}
		return
	}
	x := asked(total, weights)
	if !slices.Equal(parts, x) || e != api.OK {
		t.Errorf("Split(%d, %v): %v, %v, not %v", total, weights, parts, e, x)
	}
	if y := added(x); !slices.Equal(ends, y) || f != api.OK {
		t.Errorf("Ends(%d, %v): %v, %v, not %v", total, weights, ends, f, y)
	}
}

// some are weights of all lengths, and often of the same, and 0, the same ones every time.
func some(source *rand.Rand) []int {
	l := make([]int, source.Intn(source.Intn(count+1)+1))
	from := source.Intn(31)
	for i := range l {
		l[i] = source.Intn(most+1) >> from
		if from > 20 && source.Intn(2) == 0 {
			l[i] = source.Intn(most+1) >> source.Intn(31)
		}
		if i > 0 && source.Intn(3) == 0 {
			l[i] = l[source.Intn(i)]
		}
	}
	return l
}

// P4.1, P4.2: written out.
func TestWrittenOut(t *testing.T) {
	for i, x := range []struct {
		total               int
		weights, part, ends []int
	}{
		{10, []int{1, 1, 1}, []int{4, 3, 3}, []int{4, 7, 10}},
		{11, []int{1, 1, 1}, []int{4, 4, 3}, []int{4, 8, 11}},
		{12, []int{1, 1, 1}, []int{4, 4, 4}, []int{4, 8, 12}},
		{3, []int{1, 1}, []int{2, 1}, []int{2, 3}},
		{1, []int{1, 1}, []int{1, 0}, []int{1, 1}},
		{1, []int{1, 2}, []int{0, 1}, []int{0, 1}},
		{1, []int{2, 1}, []int{1, 0}, []int{1, 1}},
		{2, []int{1, 2, 1}, []int{1, 1, 0}, []int{1, 2, 2}}, // rests of 2, 0, 2: the first one gets the one
		{3, []int{1, 3, 1, 1}, []int{1, 2, 0, 0}, []int{1, 3, 3, 3}},
		{5, []int{1, 3, 1, 3}, []int{1, 2, 0, 2}, []int{1, 3, 3, 5}},
		{7, []int{5, 1, 2, 4}, []int{3, 1, 1, 2}, []int{3, 4, 5, 7}},
		{100, []int{1, 2, 3}, []int{17, 33, 50}, []int{17, 50, 100}},
		{4, []int{0, 1, 0, 2, 0}, []int{0, 1, 0, 3, 0}, []int{0, 1, 1, 4, 4}},
		{2, []int{0, 1, 0, 1, 0}, []int{0, 1, 0, 1, 0}, []int{0, 1, 1, 2, 2}},
		{1, []int{0, 1}, []int{0, 1}, []int{0, 1}},
		{1, []int{0, 0, 5}, []int{0, 0, 1}, []int{0, 0, 1}},
		{0, []int{3, 1, 2}, []int{0, 0, 0}, []int{0, 0, 0}},
		{0, []int{0, 0}, []int{0, 0}, []int{0, 0}},
		{0, []int{0}, []int{0}, []int{0}},
		{0, []int{most}, []int{0}, []int{0}},
		{0, []int{}, []int{}, []int{}},
		{0, nil, []int{}, []int{}},
		{1, []int{1}, []int{1}, []int{1}},
		{1, []int{most}, []int{1}, []int{1}},
		{most, []int{1}, []int{most}, []int{most}},
		{most, []int{most}, []int{most}, []int{most}},
		{most, []int{most, most}, []int{most/2 + 1, most / 2}, []int{most/2 + 1, most}},
		{most, []int{0, most, 0}, []int{0, most, 0}, []int{0, most, most}},
		{most, []int{1, most}, []int{1, most - 1}, []int{1, most}},
		{most, []int{most, 1}, []int{most - 1, 1}, []int{most - 1, most}},
		{most, []int{most - 1, most, most - 1}, []int{most / 3, most / 3, most / 3}, []int{most / 3, most / 3 * 2, most}},
		{most - 1, []int{most, most, most}, []int{most / 3, most / 3, most/3 - 1}, []int{most / 3, most / 3 * 2, most - 1}},
		{most - 1, []int{most, 1}, []int{most - 2, 1}, []int{most - 2, most - 1}},
		{1 << 29, []int{1 << 29, 1 << 29}, []int{1 << 28, 1 << 28}, []int{1 << 28, 1 << 29}},
	} {
		if l, e := share.Split(x.total, x.weights); !slices.Equal(l, x.part) || e != api.OK {
			t.Errorf("%d: Split(%d, %v): %v, %v", i, x.total, x.weights, l, e)
		}
		if l, e := share.Ends(x.total, x.weights); !slices.Equal(l, x.ends) || e != api.OK {
			t.Errorf("%d: Ends(%d, %v): %v, %v", i, x.total, x.weights, l, e)
		}
		hold(t, x.total, x.weights)
	}
}

// P4.1, P4.2: what may not be, with an empty list beside ErrArg; at a total of 0, too, weights have to be such as may be.
func TestWrong(t *testing.T) {
	ones := same(1, count)
	for i, x := range []struct {
		total   int
		weights []int
	}{
		{-1, ones}, {-1, nil}, {-1, []int{0}}, {-most, ones}, {-most - 1, ones}, {math.MinInt, ones}, {math.MinInt, nil},
		{most + 1, ones}, {most + 1, []int{most}}, {most + 1, nil}, {most + 1, []int{0}}, {1 << 32, ones}, {1<<32 + 1, ones}, {math.MaxInt, ones},
		{1, nil}, {1, []int{}}, {most, nil}, {1, []int{0}}, {1, []int{0, 0, 0}}, {most, []int{0}}, {1, same(0, count)}, {most, same(0, count)},
		{1, []int{-1}}, {0, []int{-1}}, {1, []int{1, -1}}, {1, []int{-1, 1}}, {1, []int{-1, 2}}, {0, []int{1, -1}}, {0, []int{-1, 1}}, {10, []int{5, -1, 5}}, {0, []int{0, 0, -1}},
		{1, []int{most + 1}}, {0, []int{most + 1}}, {1, []int{1, most + 1}}, {0, []int{most + 1, 0}}, {1, []int{1 << 32, 1}}, {0, []int{1<<32 + 1}},
		{1, []int{math.MaxInt, math.MaxInt, 3}}, {0, []int{math.MaxInt, math.MaxInt, 2}}, {1, []int{math.MinInt, math.MinInt, 1}}, {0, []int{math.MinInt}}, {5, []int{math.MinInt, math.MaxInt, 2}},
		{1, same(1, count+1)}, {0, same(1, count+1)}, {0, same(0, count+1)}, {most, same(most, count+1)}, {1, same(1, 2*count)}, {0, same(0, 1<<16)}, {1, same(1, 1<<16+1)},
		{0, put(ones, 0, -1)}, {9, put(ones, 0, -1)}, {0, put(ones, count/2, most+1)}, {9, put(ones, count/2, most+1)}, {0, put(ones, count-1, -1)}, {9, put(ones, count-1, most+1)},
	} {
		for j, do := range calls {
			if l, e := do(x.total, x.weights); len(l) != 0 || e != api.ErrArg {
				t.Errorf("%d, %d: %v, %v", i, j, l, e)
			}
		}
		hold(t, x.total, x.weights)
	}
}

// P4.1, P4.2: any total and any weights of the chapter's edges, so many of them as its edges are.
func TestEdges(t *testing.T) {
	totals := []int{math.MinInt, -most - 1, -1, 0, 1, 2, 3, count - 1, count, count + 1, 1<<15 + 1, 1 << 16, most / 2, most/2 + 1, most - 1, most, most + 1, math.MaxInt}
	numbers := []int{-1, 0, 1, 2, 3, 1 << 16, most / 2, most - 1, most, most + 1}
	lists := [][]int{nil, {}}
	for _, a := range numbers {
		for _, n := range []int{1, 2, 3, count - 1, count, count + 1} {
			lists = append(lists, same(a, n))
		}
		for _, b := range numbers {
			lists = append(lists, []int{a, b}, put(same(a, count), 0, b), put(same(a, count), count-1, b))
			for _, c := range numbers {
				lists = append(lists, []int{a, b, c})
			}
		}
	}
	for _, total := range totals {
		for _, l := range lists {
			hold(t, total, l)
		}
	}
}

// P4.1, P4.2: small totals and weights, one and all: every rest, and every number of ones.
func TestSmall(t *testing.T) {
	for n := range 4 * 4 * 4 * 4 * 4 {
		weights := []int{n % 4, n / 4 % 4, n / 16 % 4, n / 64 % 4, n / 256 % 4}
		for total := -1; total <= 13; total++ {
			hold(t, total, weights)
			hold(t, total, weights[:3])
		}
	}
}

// P4.1, P4.2: totals and weights of all lengths.
func TestSome(t *testing.T) {
	source := rand.New(rand.NewSource(4))
	for range 1500 {
		hold(t, source.Intn(most+1)>>source.Intn(31), some(source))
	}
}

// P4.1: of those of one rest the first ones get the ones, of however many there are.
func TestFirst(t *testing.T) {
	for n := 1; n <= count; n++ {
		for _, w := range []int{1, 2, most - 1, most} {
			ones := (n * 5 / 7) % n
			parts, e := share.Split(3*n+ones, same(w, n))
			x := append(same(4, ones), same(3, n-ones)...)
			if !slices.Equal(parts, x) || e != api.OK {
				t.Errorf("%d of %d: %v, %v", n, w, parts, e)
			}
		}
	}
	hold(t, 450, append(same(1, 150), same(3, 150)...))
	hold(t, 451, append(same(3, 150), same(1, 150)...))
}

// P4.1: the greatest rest gets the one, where it is greater by 1 alone, and the products are of more bits than half a word.
func TestGreatest(t *testing.T) {
	for _, total := range []int{1, 1 << 16, 1<<16 + 1, most / 2, most - 1, most} {
		for d := range 50 {
			for _, w := range []int{1 << 20, 1<<29 + 7, most - 60} {
				hold(t, total, []int{w, w + d})
				hold(t, total, []int{w + d, w, w + 1})
				hold(t, total, []int{w, 1, w + d, 1})
			}
		}
	}
}

// P4.3: the parts together are the total; a part is its floor, or 1 more; a greater weight has no lesser part; and the ends go up to the total.
func TestFollows(t *testing.T) {
	source := rand.New(rand.NewSource(44))
	for range 1000 {
		total, weights := source.Intn(most+1)>>source.Intn(31), some(source)
		parts, e := share.Split(total, weights)
		ends, f := share.Ends(total, weights)
		if e != api.OK || f != api.OK || total == 0 {
			continue
		}
		l, _ := floors(total, weights)
		end := 0
		for i, part := range parts {
			if part != l[i] && part != l[i]+1 {
				t.Fatalf("%d by %v: %d, with a floor of %d", total, weights, part, l[i])
			}
			for j, w := range weights {
				if w > weights[i] && parts[j] < part {
					t.Fatalf("%d by %v: %d of %d, and %d of %d", total, weights, part, weights[i], parts[j], w)
				}
			}
			end += part
			if ends[i] != end {
				t.Fatalf("%d by %v: an end at %d, not at %d", total, weights, ends[i], end)
			}
		}
		if end != total {
			t.Fatalf("%d by %v: %d", total, weights, end)
		}
	}
}

// R4, for P4.1, P4.2: what is handed in stays as it is, its spare room too, and no answer shares its memory, or another one's.
func TestMemory(t *testing.T) {
	for _, x := range []struct {
		total   int
		weights []int
	}{{10, []int{1, 1, 1}}, {10, []int{1, 3, 2}}, {3, []int{3}}, {0, []int{3, 1}}, {0, []int{0, 0}}, {0, []int{}}, {4, []int{1, -1}}, {4, []int{0, 0}}, {-1, []int{2, 1}}, {most, same(most, count)}} {
		for _, spare := range []int{0, 1, 500} {
			room := append(slices.Clone(x.weights), same(77, spare)...)
			was := slices.Clone(room)
			var answers [][]int
			for _, do := range append(calls, calls...) {
				l, _ := do(x.total, room[:len(x.weights)])
				answers = append(answers, l)
			}
			for i, l := range answers {
				l = l[:cap(l)]
				for j := range l {
					l[j] = -1000 - i
				}
			}
			for i, l := range answers {
				if !slices.Equal(l[:cap(l)], same(-1000-i, cap(l))) {
					t.Errorf("%d by %v: answers share memory", x.total, x.weights)
				}
			}
			if !slices.Equal(room, was) {
				t.Errorf("%d by %v: %v is left", x.total, x.weights, room)
			}
			hold(t, x.total, x.weights)
		}
	}
}

// R5, for P4.1, P4.2: answers hang on what is handed in alone, not on what was asked ahead of it, or is asked at once.
func TestAtOnce(t *testing.T) {
	weights := []int{5, 1, 5, 3, 1, 5}
	var all sync.WaitGroup
	for n := range 8 {
		all.Go(func() {
			for total := range 200 {
				hold(t, total*(n+1), weights[n%3:])
				hold(t, total, weights)
			}
		})
	}
	all.Wait()
}
