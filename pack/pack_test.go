package pack_test

import (
	"bytes"
	"math"
	"math/big"
	"math/rand"
	"slices"
	"sync"
	"testing"

	"compositor/api"
	"compositor/pack"
)

const (
	half  = 1 << 31
	whole = 1 << 32
)

// sizes are those that may be, those beside them, and those that look like one once they are cut to a word's part.
func sizes() []int {
	return []int{math.MinInt, math.MinInt + 1, math.MinInt + 4, -1 << 32, 1 - 1<<32, 4 - 1<<32, -255, -8, -4, -3, -2, -1, 0, 1, 2, 3, 4, 5, 6, 7, 8, 9, 16, 31, 32, 33, 63, 64, 65, 255, 256, 257, 260, 1<<16 + 1, 1 << 31, 1 << 32, 1<<32 + 1, 1<<32 + 4, 1<<61 + 1, math.MaxInt - 3, math.MaxInt}
}

// edges are the numbers of each size that are the least and the greatest, of a fix too, those beside them, and all of these below 0.
func edges() []int {
	l := []int{2, 3, 127, 128, 129, 0x12, 0x1234, 0x123456, 0x12345678, 0xFEDCBA98, 1 << 40, 1<<40 + 1, math.MaxInt - 1, math.MaxInt, math.MinInt}
	for _, bits := range []int{0, 8, 16, 24, 31, 32, 33, 62} {
		for n := 1<<bits - 2; n <= 1<<bits+2; n++ {
			l = append(l, n)
		}
	}
	for _, n := range slices.Clone(l) {
		l = append(l, -n)
	}
	return l
}

// some are numbers of all lengths and of both signs, the same ones every time.
func some(count int) []int {
	source := rand.New(rand.NewSource(6))
	l := make([]int, count)
	for i := range l {
		l[i] = int(source.Uint64()) >> source.Intn(64)
	}
	return l
}

// noise are bytes, the same ones every time.
func noise(count int) []byte {
	b := make([]byte, count)
	rand.New(rand.NewSource(66)).Read(b)
	return b
}

// fronts are bytes that a number may be put behind.
func fronts() [][]byte {
	return [][]byte{nil, {}, {0}, {255}, {1, 2, 3}, noise(8), noise(100)}
}

// roomy are bytes with spare room behind.
func roomy(b []byte, more int) []byte {
	return slices.Concat(b, bytes.Repeat([]byte{77}, more))[:len(b)]
}

// put is what the chapter's words ask of Put, by numbers that have no greatest one.
func put(b []byte, n *big.Int, size int) ([]byte, api.Errno) {
	if size < 1 || size > 4 {
		return nil, api.ErrPack
	}
	above := new(big.Int).Exp(big.NewInt(256), big.NewInt(int64(size)), nil)
	if n.Sign() < 0 || n.Cmp(above) >= 0 {
		return nil, api.ErrPack
	}
	return slices.Concat(b, n.FillBytes(make([]byte, size))), api.OK
}

// putFix is what the chapter's words ask of PutFix.
func putFix(b []byte, n int) ([]byte, api.Errno) {
	if n < -half || n > half-1 {
		return nil, api.ErrPack
	}
	x := big.NewInt(int64(n))
	if n < 0 {
		x.Add(x, big.NewInt(whole))
	}
	return put(b, x, 4)
}

// take is what the chapter's words ask of Take.
func take(b []byte, size int) (int, []byte, api.Errno) {
	if size < 1 || size > 4 || len(b) < size {
		return 0, nil, api.ErrPack
	}
	return int(new(big.Int).SetBytes(b[:size]).Int64()), b[size:], api.OK
}

// takeFix is what the chapter's words ask of TakeFix.
func takeFix(b []byte) (int, []byte, api.Errno) {
	n, behind, e := take(b, 4)
	if n >= half {
		n -= whole
	}
	return n, behind, e
}

// holdPut holds Put and PutFix against the chapter's words.
func holdPut(t *testing.T, b []byte, n, size int) {
	t.Helper()
	l, e := pack.Put(b, n, size)
	if x, f := put(b, big.NewInt(int64(n)), size); !bytes.Equal(l, x) || e != f {
		t.Errorf("Put(%v, %d, %d): %v, %v, not %v, %v", b, n, size, l, e, x, f)
	}
	l, e = pack.PutFix(b, n)
	if x, f := putFix(b, n); !bytes.Equal(l, x) || e != f {
		t.Errorf("PutFix(%v, %d): %v, %v, not %v, %v", b, n, l, e, x, f)
	}
}

// holdTake holds Take and TakeFix against the chapter's words.
func holdTake(t *testing.T, b []byte, size int) {
	t.Helper()
	n, l, e := pack.Take(b, size)
	if m, x, f := take(b, size); n != m || !bytes.Equal(l, x) || e != f {
		t.Errorf("Take(%v, %d): %d, %v, %v, not %d, %v, %v", b, size, n, l, e, m, x, f)
	}
	n, l, e = pack.TakeFix(b)
	if m, x, f := takeFix(b); n != m || !bytes.Equal(l, x) || e != f {
		t.Errorf("TakeFix(%v): %d, %v, %v, not %d, %v, %v", b, n, l, e, m, x, f)
	}
}

// P6.1: Put and Take, written out.
func TestWrittenOut(t *testing.T) {
	for i, x := range []struct {
		b       []byte
		n, size int
		l       []byte
	}{
		{nil, 258, 2, []byte{1, 2}},
		{nil, 0, 1, []byte{0}},
		{nil, 0, 2, []byte{0, 0}},
		{nil, 0, 3, []byte{0, 0, 0}},
		{nil, 0, 4, []byte{0, 0, 0, 0}},
		{nil, 7, 1, []byte{7}},
		{nil, 7, 2, []byte{0, 7}},
		{nil, 7, 3, []byte{0, 0, 7}},
		{nil, 7, 4, []byte{0, 0, 0, 7}},
		{nil, 255, 1, []byte{255}},
		{nil, 255, 2, []byte{0, 255}},
		{nil, 256, 2, []byte{1, 0}},
		{nil, 65535, 2, []byte{255, 255}},
		{nil, 65536, 3, []byte{1, 0, 0}},
		{nil, 66051, 3, []byte{1, 2, 3}},
		{nil, 1<<24 - 1, 3, []byte{255, 255, 255}},
		{nil, 1 << 24, 4, []byte{1, 0, 0, 0}},
		{nil, 16909060, 4, []byte{1, 2, 3, 4}},
		{nil, half - 1, 4, []byte{127, 255, 255, 255}},
		{nil, half, 4, []byte{128, 0, 0, 0}},
		{nil, whole - 1, 4, []byte{255, 255, 255, 255}},
		{[]byte{}, 258, 2, []byte{1, 2}},
		{[]byte{9}, 258, 2, []byte{9, 1, 2}},
		{[]byte{9, 8, 7, 6, 5}, 258, 3, []byte{9, 8, 7, 6, 5, 0, 1, 2}},
		{[]byte{0, 255}, 255, 1, []byte{0, 255, 255}},
	} {
		if l, e := pack.Put(x.b, x.n, x.size); !bytes.Equal(l, x.l) || e != api.OK {
			t.Errorf("%d: Put(%v, %d, %d): %v, %v", i, x.b, x.n, x.size, l, e)
		}
		for _, behind := range fronts() {
			b := slices.Concat(x.l[len(x.b):], behind)
			if n, l, e := pack.Take(b, x.size); n != x.n || !bytes.Equal(l, behind) || e != api.OK {
				t.Errorf("%d: Take(%v, %d): %d, %v, %v", i, b, x.size, n, l, e)
			}
		}
	}
}

// P6.2: PutFix and TakeFix, written out.
func TestFixesWrittenOut(t *testing.T) {
	for i, x := range []struct {
		n int
		l []byte
	}{
		{0, []byte{0, 0, 0, 0}},
		{1, []byte{0, 0, 0, 1}},
		{-1, []byte{255, 255, 255, 255}},
		{-2, []byte{255, 255, 255, 254}},
		{-256, []byte{255, 255, 255, 0}},
		{-257, []byte{255, 255, 254, 255}},
		{65536, []byte{0, 1, 0, 0}},
		{-65536, []byte{255, 255, 0, 0}},
		{16909060, []byte{1, 2, 3, 4}},
		{-16909060, []byte{254, 253, 252, 252}},
		{half - 2, []byte{127, 255, 255, 254}},
		{half - 1, []byte{127, 255, 255, 255}},
		{-half, []byte{128, 0, 0, 0}},
		{1 - half, []byte{128, 0, 0, 1}},
	} {
		for _, more := range fronts() {
			if l, e := pack.PutFix(more, x.n); !bytes.Equal(l, slices.Concat(more, x.l)) || e != api.OK {
				t.Errorf("%d: PutFix(%v, %d): %v, %v", i, more, x.n, l, e)
			}
			if n, l, e := pack.TakeFix(slices.Concat(x.l, more)); n != x.n || !bytes.Equal(l, more) || e != api.OK {
				t.Errorf("%d: TakeFix(%v and %v): %d, %v, %v", i, x.l, more, n, l, e)
			}
		}
	}
}

// P6.1: what may not be put, with empty bytes beside ErrPack.
func TestWrongPut(t *testing.T) {
	for i, x := range []struct{ n, size int }{
		{0, 0}, {0, 5}, {0, -1}, {0, -4}, {1, 0}, {1, 5}, {1, 8}, {258, -2}, {whole, 5}, {255, 257}, {0, math.MinInt}, {0, math.MaxInt}, {7, 1<<32 + 4}, {7, 4 - 1<<32},
		{-1, 1}, {-1, 2}, {-1, 3}, {-1, 4}, {-256, 1}, {-255, 1}, {-65536, 2}, {-half, 4}, {-whole, 4}, {1 - whole, 4}, {math.MinInt, 1}, {math.MinInt, 4},
		{256, 1}, {257, 1}, {65536, 1}, {65536, 2}, {65537, 2}, {1 << 24, 3}, {1<<24 + 1, 3}, {1 << 24, 2}, {whole, 4}, {whole + 1, 4}, {whole, 1}, {1 << 33, 4}, {math.MaxInt, 4}, {math.MaxInt, 1},
		{-1, 0}, {-1, 5}, {256, 0}, {math.MinInt, math.MinInt}, {math.MaxInt, math.MaxInt}, {math.MaxInt, 8}, {math.MinInt, 8},
	} {
		for _, b := range fronts() {
			if l, e := pack.Put(b, x.n, x.size); len(l) != 0 || e != api.ErrPack {
				t.Errorf("%d: Put(%v, %d, %d): %v, %v", i, b, x.n, x.size, l, e)
			}
		}
	}
}

// P6.2: what PutFix may not put: one beyond each end, and such as wrap round to one that may be.
func TestWrongPutFix(t *testing.T) {
	for _, n := range []int{half, half + 1, -half - 1, -half - 2, whole - 1, whole, whole + 1, 1 - whole, -whole, -whole - 1, 1 << 33, -1 << 33, math.MaxInt, math.MinInt} {
		for _, b := range fronts() {
			if l, e := pack.PutFix(b, n); len(l) != 0 || e != api.ErrPack {
				t.Errorf("PutFix(%v, %d): %v, %v", b, n, l, e)
			}
		}
	}
}

// P6.1, P6.2: what may not be taken, with 0, and empty bytes, beside ErrPack: a size that may not be, and bytes that are too few, spare room behind them or not.
func TestWrongTake(t *testing.T) {
	for size := 1; size <= 4; size++ {
		for count := range size {
			for _, b := range [][]byte{make([]byte, count), noise(count), roomy(noise(count), 10)} {
				if n, l, e := pack.Take(b, size); n != 0 || len(l) != 0 || e != api.ErrPack {
					t.Errorf("Take(%v, %d): %d, %v, %v", b, size, n, l, e)
				}
				if n, l, e := pack.TakeFix(b); n != 0 || len(l) != 0 || e != api.ErrPack {
					t.Errorf("TakeFix(%v): %d, %v, %v", b, n, l, e)
				}
			}
		}
	}
	for _, size := range sizes() {
		if 1 <= size && size <= 4 {
			continue
		}
		for _, b := range append(fronts(), noise(4), noise(5), noise(300)) {
			if n, l, e := pack.Take(b, size); n != 0 || len(l) != 0 || e != api.ErrPack {
				t.Errorf("Take(%v, %d): %d, %v, %v", b, size, n, l, e)
			}
		}
	}
	if n, l, e := pack.TakeFix(nil); n != 0 || len(l) != 0 || e != api.ErrPack {
		t.Errorf("TakeFix of none: %d, %v, %v", n, l, e)
	}
}

// P6.1, P6.2: any of the edges, of any size, behind any bytes.
func TestEdges(t *testing.T) {
	for _, b := range fronts() {
		for _, size := range sizes() {
			for _, n := range edges() {
				holdPut(t, b, n, size)
			}
		}
	}
	for _, size := range sizes() {
		for count := range 20 {
			holdTake(t, noise(count), size)
			holdTake(t, bytes.Repeat([]byte{255}, count), size)
			holdTake(t, roomy(bytes.Repeat([]byte{128}, count), 20), size)
		}
	}
}

// P6.1, P6.2: numbers of all lengths, and bytes of any kind.
func TestSome(t *testing.T) {
	all := noise(1 << 16)
	for i, n := range some(1 << 15) {
		for size := range 6 {
			holdPut(t, all[i:i+i%5], n, size)
			holdTake(t, all[i:i+i%9], size)
		}
	}
}

// P6.1: every byte at every place.
func TestEveryByte(t *testing.T) {
	for size := 1; size <= 4; size++ {
		for at := range size {
			for n := range 256 {
				b := make([]byte, size, size+1)
				b[at] = byte(n)
				holdTake(t, b, size)
				holdTake(t, append(b, 5), size)
				holdPut(t, nil, n<<(8*(size-1-at)), size)
				holdPut(t, nil, -n<<(8*(size-1-at)), size)
			}
		}
	}
}

// P6.1, P6.2: many bytes stay as they are, ahead of a number and behind it.
func TestMany(t *testing.T) {
	b := noise(1 << 20)
	for size := 1; size <= 4; size++ {
		if l, e := pack.Put(b, 200, size); len(l) != len(b)+size || !bytes.Equal(l[:len(b)], b) || l[len(l)-1] != 200 || e != api.OK {
			t.Errorf("%d: %d, %v", size, len(l), e)
		}
		if _, l, e := pack.Take(b, size); !bytes.Equal(l, b[size:]) || e != api.OK {
			t.Errorf("%d: %d, %v", size, len(l), e)
		}
	}
}

// P6.3: what was put is taken, number by number, and nothing is left of it.
func TestPutTaken(t *testing.T) {
	var b []byte
	var ns, of []int
	for i, n := range append(edges(), some(3000)...) {
		for _, size := range []int{i%4 + 1, 0, 4} { // 0 is a fix's
			l, e := pack.Put(b, n, size)
			if size == 0 {
				l, e = pack.PutFix(b, n)
			}
			if e == api.OK {
				b, ns, of = l, append(ns, n), append(of, size)
			}
		}
	}
	for i, size := range of {
		n, behind, e := pack.Take(b, size)
		if size == 0 {
			n, behind, e = pack.TakeFix(b)
		}
		if n != ns[i] || e != api.OK {
			t.Fatalf("%d, of size %d: %d, %v, not %d", i, size, n, e, ns[i])
		}
		b = behind
	}
	if len(b) != 0 || len(of) < 3000 {
		t.Errorf("%d are left of %d numbers", len(b), len(of))
	}
}

// P6.3: what was taken is put, and with what was behind it is what it was.
func TestTakenPut(t *testing.T) {
	all := append(noise(1<<12), bytes.Repeat([]byte{0, 0, 0, 0, 0, 255, 255, 255, 255, 255, 128, 127}, 20)...)
	for i := range all {
		b := all[i:min(i+4+i%7, len(all))]
		for size := 1; size <= min(4, len(b)); size++ {
			n, behind, e := pack.Take(b, size)
			l, f := pack.Put(nil, n, size)
			if !bytes.Equal(slices.Concat(l, behind), b) || e != api.OK || f != api.OK {
				t.Errorf("%v, of size %d: %d, %v and %v", b, size, n, l, behind)
			}
		}
		if len(b) < 4 {
			continue
		}
		n, behind, e := pack.TakeFix(b)
		l, f := pack.PutFix(nil, n)
		if !bytes.Equal(slices.Concat(l, behind), b) || e != api.OK || f != api.OK {
			t.Errorf("%v: %d, %v and %v", b, n, l, behind)
		}
	}
}

// P6.3: all numbers of one and two bytes, and some of three and four, and of fixes, a step of an odd length from each other.
func TestAllNumbers(t *testing.T) {
	for size, step := range []int{0, 1, 1, 97, 25013} {
		for n := 0; size > 0 && n < 1<<(8*size); n += step {
			l, e := pack.Put(nil, n, size)
			m, behind, f := pack.Take(l, size)
			if m != n || len(l) != size || len(behind) != 0 || e != api.OK || f != api.OK {
				t.Fatalf("%d, of size %d: %v, %d", n, size, l, m)
			}
		}
	}
	for n := -half; n < half; n += 25013 {
		l, e := pack.PutFix(nil, n)
		m, behind, f := pack.TakeFix(l)
		if m != n || len(l) != 4 || len(behind) != 0 || e != api.OK || f != api.OK {
			t.Fatalf("%d: %v, %d", n, l, m)
		}
	}
}

// puts and takes are the calls as they are for numbers of four bytes and of fewer, for what holds of all of them.
func puts() []func(b []byte, n int) ([]byte, api.Errno) {
	l := []func(b []byte, n int) ([]byte, api.Errno){pack.PutFix}
	for size := range 6 {
		l = append(l, func(b []byte, n int) ([]byte, api.Errno) { return pack.Put(b, n, size) })
	}
	return l
}

func takes() []func(b []byte) (int, []byte, api.Errno) {
	l := []func(b []byte) (int, []byte, api.Errno){pack.TakeFix}
	for size := range 6 {
		l = append(l, func(b []byte) (int, []byte, api.Errno) { return pack.Take(b, size) })
	}
	return l
}

// R4, for P6.1 and P6.2: what is handed in stays as it is, its spare room too, whether there is an error or not.
func TestHandedInStays(t *testing.T) {
	for count := range 12 {
		for spare := range 12 {
			room := noise(count + spare)
			was := slices.Clone(room)
			for _, do := range puts() {
				for _, n := range []int{0, 200, 70000, whole - 1, -5, -half} {
					do(room[:count], n)
				}
			}
			for _, do := range takes() {
				do(room[:count])
			}
			if !bytes.Equal(room, was) {
				t.Errorf("%d, with %d behind: %v is left of %v", count, spare, room, was)
			}
		}
	}
}

// turn changes bytes, and their spare room.
func turn(b []byte) {
	b = b[:cap(b)]
	for i := range b {
		b[i] ^= 255
	}
}

// R4, for P6.1 and P6.2: a change of an answer, or of its spare room, changes neither what was handed in nor another answer; a change of what was handed in changes no answer.
func TestPutMemory(t *testing.T) {
	for count := range 12 {
		for i, do := range puts() {
			room := roomy(noise(count), 20)
			was := slices.Clone(room[:cap(room)])
			a, e := do(room, 100)
			b, _ := do(room, 100)
			kept := slices.Clone(a)
			turn(b)
			if !bytes.Equal(room[:cap(room)], was) || !bytes.Equal(a, kept) {
				t.Errorf("%d, %d: %v, and %v of %v", i, count, room, a, kept)
			}
			turn(room)
			if !bytes.Equal(a, kept) || e == api.OK && len(a) <= count {
				t.Errorf("%d, %d: %v of %v", i, count, a, kept)
			}
		}
	}
}

func TestTakeMemory(t *testing.T) {
	for count := range 12 {
		for i, do := range takes() {
			room := roomy(noise(count), 20)
			was := slices.Clone(room[:cap(room)])
			_, a, _ := do(room)
			_, b, _ := do(room)
			kept := slices.Clone(a)
			turn(b)
			b = append(b, 1, 2, 3)
			if !bytes.Equal(room[:cap(room)], was) || !bytes.Equal(a, kept) {
				t.Errorf("%d, %d: %v, and %v of %v, beside %v", i, count, room, a, kept, b)
			}
			turn(room)
			if !bytes.Equal(a, kept) {
				t.Errorf("%d, %d: %v of %v", i, count, a, kept)
			}
		}
	}
}

// R5, for P6.1 and P6.2: answers hang on what is handed in alone, not on what was asked ahead of it, or is asked at once.
func TestAtOnce(t *testing.T) {
	room := roomy(noise(9), 20)
	ns := some(2000)
	var all sync.WaitGroup
	for n := range 8 {
		all.Go(func() {
			for i, m := range ns {
				holdPut(t, room[:(i+n)%10], m, (i*n+n)%6)
				holdTake(t, room[:(i*n+i)%10], (i+n)%6)
			}
		})
	}
	all.Wait()
}
