package tfm_test

import (
	"bytes"
	"encoding/binary"
	"math"
	"math/rand"
	"slices"
	"sync"
	"testing"

	"compositor/api"
	"compositor/tfm"
)

// fonts are such as may be.
func fonts() []api.Font { return append(some(40), least(), plain(), full()) }

// codesOf are codes of a font, of all bytes, and some beyond.
func codesOf(f api.Font) []int {
	l := []int{math.MinInt, math.MinInt + 1, -1 << 32, 65 - 1<<32, -256, 256, 257, 511, 512, 1 << 32, 1<<32 + 65, math.MaxInt - 1, math.MaxInt}
	for n := -2; n < 260; n++ {
		l = append(l, n)
	}
	return append(l, f.First-1, f.First, f.First+len(f.Chars)-1, f.First+len(f.Chars), f.First+len(f.Chars)+1)
}

// holdRead holds Read against the chapter's words.
func holdRead(t *testing.T, b []byte) {
	t.Helper()
	f, e := tfm.Read(b)
	if g, x := read(b); e != x || !same(f, g) {
		t.Errorf("Read(%v): %v, %v, not %v, %v", b, f, e, g, x)
	}
}

// hold holds all calls against the chapter's words.
func hold(t *testing.T, f api.Font) {
	t.Helper()
	may := mayBe(f)
	if tfm.Check(f) != may {
		t.Errorf("Check(%v): %t", f, !may)
	}
	l, e := tfm.Write(f)
	if may && (e != api.OK || !bytes.Equal(l, asBytes(f))) || !may && (e != api.ErrTfm || len(l) != 0) {
		t.Errorf("Write(%v): %v, %v", f, l, e)
	}
	holdRead(t, asBytes(f))
	for _, code := range []int{f.First - 1, f.First, f.First + 1, f.First + len(f.Chars) - 1, f.First + len(f.Chars)} {
		if tfm.Has(f, code) != has(f, code) {
			t.Errorf("Has(%v, %d): %t", f, code, !has(f, code))
		}
	}
}

// P7.1, P7.3: the chapter's example, byte by byte.
func TestExample(t *testing.T) {
	b := []byte{
		0, 13, 0, 2, 0, 0, 0, 0, 0, 1, 0, 1, 0, 1, 0, 1, 0, 0, 0, 0, 0, 0, 0, 0,
		0, 0, 0, 0, 0, 16, 0, 0,
		0, 0, 0, 0,
		0, 0, 0, 0, 0, 0, 0, 0, 0, 0, 0, 0, 0, 0, 0, 0,
	}
	if l, e := tfm.Write(least()); len(b) != 24+8+4*5 || !bytes.Equal(l, b) || e != api.OK {
		t.Errorf("%v, %v", l, e)
	}
	if f, e := tfm.Read(b); !same(f, least()) || e != api.OK {
		t.Errorf("%v, %v", f, e)
	}
	if !tfm.Check(least()) {
		t.Error("it may not be")
	}
}

// P7.1, P7.3: a font with all kinds of parts, byte by byte.
func TestWrittenOut(t *testing.T) {
	b := []byte{
		0, 35, 0, 2, 0, 65, 0, 68, 0, 4, 0, 3, 0, 2, 0, 4, 0, 3, 0, 2, 0, 0, 0, 5,
		1, 2, 3, 4, 0, 160, 0, 0,
		2, 16 + 1, 0, 0, 0, 0, 0, 0, 3, 32, 12 + 1, 2, 1, 1, 4 + 1, 0,
		0, 0, 0, 0, 0, 7, 161, 32, 255, 255, 255, 249, 0, 10, 174, 96,
		0, 0, 0, 0, 0, 6, 221, 208, 0, 16, 0, 0,
		0, 0, 0, 0, 0, 3, 13, 64,
		0, 0, 0, 0, 0, 0, 0, 1, 255, 255, 255, 255, 0, 0, 117, 48,
		0, 65, 128, 1, 128, 66, 0, 67, 5, 67, 129, 0,
		255, 255, 147, 125, 0, 0, 0, 9,
		0, 0, 0, 3, 0, 0, 0, 0, 255, 249, 229, 128, 0, 0, 0, 5, 0, 0, 0, 6,
	}
	if l, e := tfm.Write(plain()); !bytes.Equal(l, b) || e != api.OK {
		t.Errorf("%v, %v", l, e)
	}
	if f, e := tfm.Read(b); !same(f, plain()) || e != api.OK {
		t.Errorf("%v, %v", f, e)
	}
}

// P7.1, P7.2, P7.3: fonts of all kinds may be, what is written of them is read, and all that the calls answer is what the chapter's words ask.
func TestFonts(t *testing.T) {
	for i, f := range append(fonts(), some(300)...) {
		if !tfm.Check(f) {
			t.Errorf("%d may not be", i)
		}
		l, e := tfm.Write(f)
		g, x := tfm.Read(l)
		if e != api.OK || x != api.OK || !same(f, g) {
			t.Errorf("%d: %v, %v: %v", i, e, x, g)
		}
		hold(t, f)
	}
}

// a change of a font, and whether it may be then.
type change struct {
	name string
	do   func(f *api.Font)
	may  bool
}

// ends are changes of the numbers that stand alone, and of how many characters there are.
func ends() []change {
	return []change{
		{"Sum 0", func(f *api.Font) { f.Sum = 0 }, true},
		{"Sum -1", func(f *api.Font) { f.Sum = -1 }, false},
		{"Sum 2^32 - 1", func(f *api.Font) { f.Sum = 1<<32 - 1 }, true},
		{"Sum 2^32", func(f *api.Font) { f.Sum = 1 << 32 }, false},
		{"Sum 2^31", func(f *api.Font) { f.Sum = 1 << 31 }, true},
		{"Design 2^20", func(f *api.Font) { f.Design = 1 << 20 }, true},
		{"Design 2^20 - 1", func(f *api.Font) { f.Design = 1<<20 - 1 }, false},
		{"Design 0", func(f *api.Font) { f.Design = 0 }, false},
		{"Design below 0", func(f *api.Font) { f.Design = -1 << 20 }, false},
		{"Design 2^31 - 1", func(f *api.Font) { f.Design = 1<<31 - 1 }, true},
		{"Design 2^31", func(f *api.Font) { f.Design = 1 << 31 }, false},
		{"Design 2^32 and 2^20", func(f *api.Font) { f.Design = 1<<32 + 1<<20 }, false},
		{"First 0", func(f *api.Font) { f.First = 0 }, true},
		{"First -1", func(f *api.Font) { f.First = -1 }, false},
		{"First 255, one character", func(f *api.Font) { f.First, f.Chars = 255, f.Chars[:1] }, true},
		{"First 255, two characters", func(f *api.Font) { f.First, f.Chars = 255, f.Chars[:2] }, false},
		{"First 256, one character", func(f *api.Font) { f.First, f.Chars = 256, f.Chars[:1] }, false},
		{"First 256, none", func(f *api.Font) { f.First, f.Chars = 256, nil }, false},
		{"First 300, none", func(f *api.Font) { f.First, f.Chars = 300, nil }, false},
		{"no character", func(f *api.Font) { f.Chars = nil }, false},
		{"no character, First 0", func(f *api.Font) { f.First, f.Chars = 0, []api.Char{} }, false},
		{"one character", func(f *api.Font) { f.Chars = f.Chars[:1] }, true},
		{"256 characters", func(f *api.Font) { f.First, f.Chars = 0, make([]api.Char, 256) }, true},
		{"257 characters", func(f *api.Font) { f.First, f.Chars = 0, make([]api.Char, 257) }, false},
		{"257 characters, First -1", func(f *api.Font) { f.First, f.Chars = -1, make([]api.Char, 257) }, false},
		{"191 characters from 65 on", func(f *api.Font) { f.Chars = make([]api.Char, 191) }, true},
		{"192 characters from 65 on", func(f *api.Font) { f.Chars = make([]api.Char, 192) }, false},
		{"65536 characters", func(f *api.Font) { f.First, f.Chars = 0, make([]api.Char, 65536) }, false},
		{"65537 characters", func(f *api.Font) { f.First, f.Chars = 0, make([]api.Char, 65537) }, false},
	}
}

// parts are changes of what characters name, and of steps; plain has 4 Widths, 3 Heights, 2 Depths, 4 Italics and 3 Steps.
func parts() []change {
	return []change{
		{"places 0", func(f *api.Font) { f.Chars[1] = char(0, 0, 0, 0, 0, 0) }, true},
		{"last places", func(f *api.Font) { f.Chars[1] = char(3, 2, 1, 3, 1, 2) }, true},
		{"Width beyond", func(f *api.Font) { f.Chars[1].Width = 4 }, false},
		{"Height beyond", func(f *api.Font) { f.Chars[2].Height = 3 }, false},
		{"Depth beyond", func(f *api.Font) { f.Chars[3].Depth = 2 }, false},
		{"Italic beyond", func(f *api.Font) { f.Chars[0].Italic = 4 }, false},
		{"Width -1", func(f *api.Font) { f.Chars[1].Width = -1 }, false},
		{"Height -1", func(f *api.Font) { f.Chars[2].Height = -1 }, false},
		{"Depth -1", func(f *api.Font) { f.Chars[3].Depth = -1 }, false},
		{"Italic -1", func(f *api.Font) { f.Chars[0].Italic = -1 }, false},
		{"Width 256 on", func(f *api.Font) { f.Chars[0].Width = 256 }, false},
		{"Tag 0, Rem 0", func(f *api.Font) { f.Chars[2].Tag, f.Chars[2].Rem = 0, 0 }, true},
		{"Tag 0, Rem 1", func(f *api.Font) { f.Chars[0].Rem = 1 }, false},
		{"Tag 0, Rem -1", func(f *api.Font) { f.Chars[0].Rem = -1 }, false},
		{"Tag 0, Rem 255", func(f *api.Font) { f.Chars[3].Tag, f.Chars[3].Rem = 0, 255 }, false},
		{"Tag 1, Rem 0", func(f *api.Font) { f.Chars[0].Tag, f.Chars[0].Rem = 1, 0 }, true},
		{"Tag 1, Rem beyond", func(f *api.Font) { f.Chars[2].Rem = 3 }, false},
		{"Tag 1, Rem -1", func(f *api.Font) { f.Chars[2].Rem = -1 }, false},
		{"Tag 2", func(f *api.Font) { f.Chars[2].Tag = 2 }, false},
		{"Tag 2, Rem 0", func(f *api.Font) { f.Chars[0].Tag = 2 }, false},
		{"Tag 3", func(f *api.Font) { f.Chars[3].Tag = 3 }, false},
		{"Tag -1", func(f *api.Font) { f.Chars[3].Tag = -1 }, false},
		{"Tag 4", func(f *api.Font) { f.Chars[1].Tag = 4 }, false},
		{"Tag 5", func(f *api.Font) { f.Chars[3].Tag = 5 }, false},
		{"steps gone", func(f *api.Font) { f.Steps = nil }, false},
		{"steps gone, and tags", func(f *api.Font) {
			f.Steps, f.Chars[2].Tag, f.Chars[2].Rem, f.Chars[3].Tag = nil, 0, 0, 0
		}, true},
		{"one step too few", func(f *api.Font) { f.Steps = f.Steps[:2] }, false},
		{"256 steps", func(f *api.Font) { f.Steps = make([]api.Step, 256) }, true},
		{"257 steps", func(f *api.Font) { f.Steps = make([]api.Step, 257) }, false},
		{"256 steps, Rem 255", func(f *api.Font) { f.Steps, f.Chars[3].Rem = make([]api.Step, 256), 255 }, true},
		{"256 steps, Rem 256", func(f *api.Font) { f.Steps, f.Chars[3].Rem = make([]api.Step, 256), 256 }, false},
		{"a step of 0", func(f *api.Font) { f.Steps[1] = step(0, 0, 0, 0) }, true},
		{"a step of 255", func(f *api.Font) { f.Steps[1] = step(255, 255, 255, 255) }, true},
		{"Skip 256", func(f *api.Font) { f.Steps[0].Skip = 256 }, false},
		{"Next 256", func(f *api.Font) { f.Steps[1].Next = 256 }, false},
		{"Op 256", func(f *api.Font) { f.Steps[2].Op = 256 }, false},
		{"Rem 256", func(f *api.Font) { f.Steps[0].Rem = 256 }, false},
		{"Skip -1", func(f *api.Font) { f.Steps[2].Skip = -1 }, false},
		{"Next -1", func(f *api.Font) { f.Steps[1].Next = -1 }, false},
		{"Op -1", func(f *api.Font) { f.Steps[0].Op = -1 }, false},
		{"Rem -1", func(f *api.Font) { f.Steps[2].Rem = -1 }, false},
	}
}

// tables are changes of the lists of numbers: how many there are, and which.
func tables() []change {
	var all []change
	for i, most := range []int{256, 16, 16, 64, 256, 30} {
		put := func(at, n int) func(f *api.Font) {
			return func(f *api.Font) {
				l := slices.Concat(*lists(f)[i], make([]int, 5))[:5] // as many as each may have, and no fewer than characters name
				l[at] = n
				*lists(f)[i] = l
			}
		}
		count := func(n int) func(f *api.Font) {
			return func(f *api.Font) {
				f.Chars[0], f.Chars[2], f.Chars[3] = api.Char{}, api.Char{}, api.Char{}
				*lists(f)[i] = make([]int, n)
			}
		}
		all = append(all,
			change{"the greatest", put(4, 1<<24-1), true},
			change{"one beyond", put(4, 1<<24), false},
			change{"the least", put(4, -1<<24), true},
			change{"one below", put(4, -1<<24-1), false},
			change{"2^32 beyond", put(3, 1<<32), false},
			change{"a first one of 1", put(0, 1), i > 3},
			change{"a first one of -1", put(0, -1), i > 3},
			change{"a first one of 2^24 - 1", put(0, 1<<24-1), i > 3},
			change{"a first one of 2^24", put(0, 1<<24), false},
			change{"a first one of 0", put(0, 0), true},
			change{"none", count(0), i > 3},
			change{"one", count(1), true},
			change{"the most", count(most), true},
			change{"one more", count(most + 1), false},
			change{"2^16 more", count(1<<16 + 1), false},
			change{"many more", count(1 << 18), false},
		)
	}
	return all
}

// P7.1, P7.2: the edges that the chapter names, and one beyond each.
func TestEdges(t *testing.T) {
	for i, c := range slices.Concat(ends(), parts(), tables()) {
		f := copied(plain())
		c.do(&f)
		if tfm.Check(f) != c.may || mayBe(f) != c.may {
			t.Errorf("%d, %s: %t", i, c.name, !c.may)
		}
		hold(t, f)
	}
}

// P7.1: each number that a font is made of, as great and as little as there are, and such as look right once they are cut.
func TestEveryNumber(t *testing.T) {
	odd := []int{math.MinInt, -1 << 40, -1 << 32, -1 << 31, -1<<24 - 1, -1 << 24, -256, -255, -2, -1, 0, 1, 2, 3, 4, 5, 15, 16, 17, 63, 64, 65, 127, 128, 252, 253, 254, 255, 256, 257, 1 << 16, 1<<20 - 1, 1 << 20, 1<<24 - 1, 1 << 24, 1<<31 - 1, 1 << 31, 1<<32 - 1, 1 << 32, 1<<32 + 1, 1<<32 + 1<<20, 1<<40 + 1, math.MaxInt - 255, math.MaxInt}
	for _, f := range []api.Font{least(), plain(), full()} {
		g := copied(f)
		l := numbers(&g)
		for at := 0; at < len(l); at += 1 + len(l)/100 {
			was := *l[at]
			for _, n := range odd {
				*l[at] = n
				hold(t, g)
			}
			*l[at] = was
		}
	}
}

// P7.1: each list, as long as it may be, and one longer, in fonts whose other parts are the fewest and the most.
func TestLengths(t *testing.T) {
	for _, f := range []api.Font{least(), plain(), full()} {
		for i := range lists(&f) {
			for _, n := range []int{0, 1, 2, 15, 16, 17, 29, 30, 31, 32, 63, 64, 65, 128, 255, 256, 257, 258, 300} {
				g := copied(f)
				l := lists(&g)[i]
				*l = slices.Concat(*l, fixes(n))[:n]
				hold(t, g)
			}
		}
		for _, n := range []int{0, 1, 2, 190, 191, 192, 255, 256, 257, 300} {
			g := copied(f)
			g.Chars = slices.Concat(g.Chars, make([]api.Char, n))[:n]
			hold(t, g)
			g = copied(f)
			g.Steps = slices.Concat(g.Steps, make([]api.Step, n))[:n]
			hold(t, g)
		}
	}
}

// wrong tells of bytes that there is no font of them, with an empty one beside ErrTfm.
func wrong(t *testing.T, b []byte) {
	t.Helper()
	if f, e := tfm.Read(b); e != api.ErrTfm || !same(f, api.Font{}) {
		t.Errorf("Read(%v): %v, %v", b, f, e)
	}
}

// P7.1: none, too few of each length, and too many, spare room behind them or not.
func TestTooFew(t *testing.T) {
	wrong(t, nil)
	wrong(t, []byte{})
	for _, f := range fonts() {
		b := asBytes(f)
		for n := 0; n < len(b); n += 1 + len(b)/200 {
			wrong(t, b[:n])
			wrong(t, slices.Clone(b[:n]))
		}
		wrong(t, b[:len(b)-1])
		wrong(t, b[:len(b)-4])
		wrong(t, b[4:])
		for _, more := range []int{1, 2, 3, 4, 8, 24, 100, 1 << 18} {
			wrong(t, slices.Concat(b, make([]byte, more)))
			wrong(t, slices.Concat(make([]byte, more), b))
		}
		wrong(t, slices.Concat(b, b))
	}
	wrong(t, make([]byte, 1<<20))
	wrong(t, bytes.Repeat([]byte{255}, 1<<20))
}

// P7.1: each of the twelve numbers wrong, the first of them, that tells all words, as it was, or as the others ask.
func TestTwelve(t *testing.T) {
	for _, f := range []api.Font{least(), plain(), full()} {
		for at := range 12 {
			b := asBytes(f)
			was := binary.BigEndian.Uint16(b[2*at:])
			for _, n := range []uint16{0, 1, 2, 3, 4, 5, 15, 16, 17, 18, 30, 31, 64, 65, 66, 127, 128, 255, 256, 257, 32767, 32768, 65534, 65535, was - 1, was + 1, was - 2, was + 2, was + 256, was - 256, was ^ 128} {
				if n == was {
					continue
				}
				binary.BigEndian.PutUint16(b[2*at:], n)
				wrong(t, b)
				l := slices.Clone(b)
				if at > 0 {
					binary.BigEndian.PutUint16(l, binary.BigEndian.Uint16(l)+n-was)
				}
				holdRead(t, l)
				for _, words := range []int{1, 2} {
					holdRead(t, slices.Concat(l, make([]byte, 4*words)))
					holdRead(t, slices.Insert(slices.Clone(l), 32, make([]byte, 4*words)...))
				}
			}
		}
	}
}

// P7.1: more words at the head, and such as the number that is 0 would tell of, are no font's, even where all counts agree.
func TestOtherParts(t *testing.T) {
	b := slices.Insert(asBytes(plain()), 32, 1, 2, 3, 4)
	b[1]++
	wrong(t, b)
	b[3]++
	wrong(t, b)
	b = asBytes(plain())
	b = slices.Insert(b, len(b)-20, 1, 2, 3, 4)
	b[1]++
	wrong(t, b)
	b[21]++
	wrong(t, b)
	b = asBytes(plain())
	b = slices.Delete(b, 24, 28)
	b[1]--
	wrong(t, b)
	b[3]--
	wrong(t, b)
}

// P7.1, P7.3: any byte at any place.
func TestEveryByte(t *testing.T) {
	for _, f := range []api.Font{least(), plain()} {
		b := asBytes(f)
		for at, was := range b {
			for n := range 256 {
				b[at] = byte(n)
				holdRead(t, b)
			}
			b[at] = was
		}
	}
}

// P7.3: what is read is written again; among all kinds of bytes, some of which are a font's.
func TestReadWritten(t *testing.T) {
	source := rand.New(rand.NewSource(77))
	count := 0
	for _, f := range append(some(200), least(), plain(), full()) {
		for range 40 {
			b := asBytes(f)
			for range 1 + source.Intn(2) {
				b[32+source.Intn(len(b)-32)] ^= byte(1 << source.Intn(8))
			}
			g, e := tfm.Read(b)
			if e != api.OK {
				holdRead(t, b)
				continue
			}
			count++
			if l, x := tfm.Write(g); x != api.OK || !bytes.Equal(l, b) || !tfm.Check(g) {
				t.Errorf("%v: %v, %v", b, l, x)
			}
		}
	}
	if count < 1000 {
		t.Errorf("%d fonts", count)
	}
}

// P7.1: bytes of no kind.
func TestNoise(t *testing.T) {
	source := rand.New(rand.NewSource(777))
	for range 3000 {
		b := make([]byte, source.Intn(400))
		source.Read(b)
		wrong(t, b)
		for i := 0; i < min(24, len(b)); i++ { // counts that are little
			b[i] &= byte(i % 2 * 7)
		}
		holdRead(t, b)
	}
}

// P7.2: codes of all kinds, of fonts of all kinds: below First, the first and the last one, one behind, and those whose Width is 0.
func TestHas(t *testing.T) {
	for i, x := range []struct {
		code int
		has  bool
	}{{64, false}, {65, true}, {66, false}, {67, true}, {68, true}, {69, false}, {0, false}, {1, false}, {-1, false}, {3, false}, {65 + 256, false}, {65 - 256, false}, {65 + 1<<32, false}, {math.MinInt, false}, {math.MaxInt, false}} {
		if tfm.Has(plain(), x.code) != x.has {
			t.Errorf("%d: Has(%d): %t", i, x.code, !x.has)
		}
	}
	for _, f := range fonts() {
		for _, code := range codesOf(f) {
			if tfm.Has(f, code) != has(f, code) {
				t.Errorf("Has(%v, %d): %t", f, code, !has(f, code))
			}
		}
	}
	if !tfm.Has(full(), 0) || !tfm.Has(full(), 254) || tfm.Has(full(), 255) || tfm.Has(least(), 0) {
		t.Error("full, or least, has others")
	}
}

// P7.2: the Width is a place: it is not 0 where what stands at that place is 0, or below; and the other places may be 0.
func TestHasByPlace(t *testing.T) {
	f := least()
	f.Widths, f.Chars = []int{0, 0, -5}, []api.Char{char(1, 0, 0, 0, 0, 0), char(0, 0, 0, 0, 0, 0), char(2, 0, 0, 0, 0, 0), char(0, 1, 1, 1, 1, 0)}
	f.Heights, f.Depths, f.Italics, f.Steps = []int{0, 9}, []int{0, 9}, []int{0, 9}, []api.Step{{}}
	for code, want := range []bool{true, false, true, false, false} {
		if tfm.Has(f, code) != want {
			t.Errorf("Has of %d: %t", code, !want)
		}
	}
}

// P7.2: a font that may not be has no character.
func TestHasNone(t *testing.T) {
	for i, c := range slices.Concat(ends(), parts(), tables()) {
		f := copied(plain())
		c.do(&f)
		for _, code := range codesOf(f) {
			if tfm.Has(f, code) != has(f, code) || !c.may && tfm.Has(f, code) {
				t.Errorf("%d, %s: %d", i, c.name, code)
			}
		}
	}
	if tfm.Has(api.Font{}, 0) {
		t.Error("an empty one has 0")
	}
	f := plain()
	f.First = math.MaxInt - 1
	for _, code := range codesOf(f) {
		if tfm.Has(f, code) {
			t.Errorf("%d", code)
		}
	}
}

// P7.1: fonts that may not be have no bytes, an empty one among them.
func TestWrongFonts(t *testing.T) {
	all := []api.Font{{}, {Design: 1 << 20}}
	for _, c := range slices.Concat(ends(), parts(), tables()) {
		f := copied(plain())
		if c.do(&f); !c.may {
			all = append(all, f)
		}
	}
	for i, f := range all {
		if l, e := tfm.Write(f); len(l) != 0 || e != api.ErrTfm || tfm.Check(f) {
			t.Errorf("%d: %v, %v", i, l, e)
		}
	}
}

// R4, for P7.1 and P7.2: lists without elements may be nil or not.
func TestNil(t *testing.T) {
	f, g := least(), least()
	f.Steps, f.Kerns, f.Params = nil, nil, nil
	g.Steps, g.Kerns, g.Params = []api.Step{}, []int{}, make([]int, 0, 9)
	a, e := tfm.Write(f)
	b, x := tfm.Write(g)
	if !bytes.Equal(a, b) || e != api.OK || x != api.OK || !tfm.Check(f) || !tfm.Check(g) {
		t.Errorf("%v, %v: %v, %v", a, b, e, x)
	}
}

// roomy is a font all of whose lists have spare room, in which there are numbers that may not be.
func roomy(f api.Font) api.Font {
	f.Chars = append(slices.Clone(f.Chars), char(-9, -9, -9, -9, -9, -9), char(8, 8, 8, 8, 8, 8))[:len(f.Chars)]
	f.Steps = append(slices.Clone(f.Steps), step(-9, -9, -9, -9), step(300, 300, 300, 300))[:len(f.Steps)]
	for _, l := range lists(&f) {
		*l = append(slices.Clone(*l), 1<<50, -1<<50, 7)[:len(*l)]
	}
	return f
}

// stretched is a font whose lists go up to the ends of their spare room.
func stretched(f api.Font) api.Font {
	f.Chars, f.Steps = f.Chars[:cap(f.Chars)], f.Steps[:cap(f.Steps)]
	for _, l := range lists(&f) {
		*l = (*l)[:cap(*l)]
	}
	return f
}

// turn changes a font, and its lists' spare room.
func turn(f api.Font) {
	f = stretched(f)
	for _, n := range numbers(&f) {
		*n ^= 1 << 40
	}
}

// R4, for P7.1 and P7.2: what is handed in stays as it is, its spare room too, whether there is an error or not.
func TestHandedInStays(t *testing.T) {
	all := fonts()
	for _, c := range slices.Concat(ends(), parts(), tables()) {
		f := copied(plain())
		c.do(&f)
		all = append(all, f)
	}
	for i, f := range all {
		g := roomy(f)
		was := copied(stretched(g))
		tfm.Check(g)
		tfm.Write(g)
		tfm.Has(g, g.First)
		if !same(stretched(g), was) || !same(f, g) {
			t.Errorf("%d is changed", i)
		}
		b := append(asBytes(f), 1, 2, 3, 4, 5)
		kept := slices.Clone(b)
		for _, n := range []int{len(b) - 5, len(b) - 6, len(b) - 1, len(b)} {
			if tfm.Read(b[:n]); !bytes.Equal(b, kept) {
				t.Errorf("%d: bytes are changed", i)
			}
		}
	}
}

// R4, for P7.1: a change of an answer, or of its spare room, changes neither what was handed in nor another answer; a change of what was handed in changes no answer.
func TestMemory(t *testing.T) {
	for i, f := range fonts() {
		g := roomy(f)
		a, _ := tfm.Write(g)
		b, _ := tfm.Write(g)
		clear(b[:cap(b)])
		turn(g)
		if !bytes.Equal(a, asBytes(f)) {
			t.Errorf("%d: bytes are changed", i)
		}
		x, _ := tfm.Read(a)
		y, _ := tfm.Read(a)
		turn(y)
		if !same(x, f) || !bytes.Equal(a, asBytes(f)) {
			t.Errorf("%d: a font, or its bytes, are changed by another's", i)
		}
		clear(a[:cap(a)])
		if !same(x, f) {
			t.Errorf("%d: a font is changed by its bytes", i)
		}
	}
}

// R4, for P7.1: no two lists of one font that is read share any memory.
func TestListsApart(t *testing.T) {
	for i, f := range fonts() {
		g, e := tfm.Read(asBytes(f))
		if e != api.OK {
			t.Fatalf("%d: %v", i, e)
		}
		for at, l := range lists(&g) {
			full := (*l)[:cap(*l)]
			for k := range full {
				full[k] ^= 1 << 40
			}
			was := *l
			*l = *lists(&f)[at]
			if !same(f, g) {
				t.Errorf("%d, %d: another list is changed", i, at)
			}
			*l = was
			for k := range full {
				full[k] ^= 1 << 40
			}
		}
	}
}

// R5, for P7.1 and P7.2: answers hang on what is handed in alone, not on what was asked ahead of it, or is asked at once.
func TestAtOnce(t *testing.T) {
	l := append(fonts(), api.Font{})
	for _, c := range parts() {
		f := copied(plain())
		c.do(&f)
		l = append(l, f)
	}
	var all sync.WaitGroup
	for n := range 8 {
		all.Go(func() {
			for i := range 2 * len(l) {
				hold(t, l[(i*(2*n+1)+n)%len(l)])
			}
		})
	}
	all.Wait()
}
