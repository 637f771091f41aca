package tfm_test

import (
	"bytes"
	"encoding/binary"
	"math/rand"
	"slices"

	"compositor/api"
)

// What the chapter's words ask, told another way than the package tells it; and fonts to ask it of.

// ten is 2^10, of which the chapter's bounds are made.
const ten = 1 << 10

// char and step are made of their parts, in their order.
func char(width, height, depth, italic, tag, rem int) api.Char {
	return api.Char{Width: width, Height: height, Depth: depth, Italic: italic, Tag: tag, Rem: rem}
}

func step(skip, next, op, rem int) api.Step {
	return api.Step{Skip: skip, Next: next, Op: op, Rem: rem}
}

// least is the font with the fewest parts.
func least() api.Font {
	return api.Font{Design: ten * ten, Chars: make([]api.Char, 1), Widths: []int{0}, Heights: []int{0}, Depths: []int{0}, Italics: []int{0}}
}

// plain is a font of a few characters, with all kinds of parts; a character in its midst is not there.
func plain() api.Font {
	return api.Font{
		Sum: 0x01020304, Design: 10 << 20, First: 65,
		Chars:   []api.Char{char(2, 1, 1, 0, 0, 0), char(0, 0, 0, 0, 0, 0), char(3, 2, 0, 3, 1, 2), char(1, 0, 1, 1, 1, 0)},
		Widths:  []int{0, 500000, -7, 700000},
		Heights: []int{0, 450000, 1 << 20},
		Depths:  []int{0, 200000},
		Italics: []int{0, 1, -1, 30000},
		Steps:   []api.Step{step(0, 65, 128, 1), step(128, 66, 0, 67), step(5, 67, 129, 0)},
		Kerns:   []int{-27779, 9},
		Params:  []int{3, 0, -400000, 5, 6},
	}
}

// full is the font with the most parts, each of which is as great as it may be, or as little.
func full() api.Font {
	f := api.Font{Sum: ten*ten*ten*4 - 1, Design: ten*ten*ten*2 - 1, Widths: fixes(256), Heights: fixes(16), Depths: fixes(16), Italics: fixes(64), Kerns: fixes(256), Params: fixes(30)}
	for i := range 256 {
		f.Chars = append(f.Chars, char(255-i, i%16, 15-i/16, i%64, 1, 255-i))
		f.Steps = append(f.Steps, step(i, 255-i, (i*7)%256, (i+100)%256))
	}
	f.Widths[0], f.Heights[0], f.Depths[0], f.Italics[0] = 0, 0, 0, 0
	return f
}

// fixes are so many of the greatest and the least.
func fixes(count int) []int {
	return slices.Repeat([]int{16*ten*ten - 1, -16 * ten * ten}, count)[:count]
}

// some are fonts of all kinds, the same ones every time.
func some(count int) []api.Font {
	source := rand.New(rand.NewSource(7))
	fix := func() int { return source.Intn(1<<25) - 1<<24 }
	list := func(most int, first int) []int {
		l := make([]int, first, first+most)
		for range source.Intn(1 + source.Intn(most-first+1)) {
			l = append(l, fix()>>source.Intn(24))
		}
		return l
	}
	var all []api.Font
	for range count {
		f := api.Font{Sum: source.Intn(1 << 32), Design: 1<<20 + source.Intn(1<<31-1<<20), First: source.Intn(256), Widths: list(256, 1), Heights: list(16, 1), Depths: list(16, 1), Italics: list(64, 1), Kerns: list(256, 0), Params: list(30, 0)}
		for range source.Intn(257) {
			f.Steps = append(f.Steps, step(source.Intn(256), source.Intn(256), source.Intn(256), source.Intn(256)))
		}
		for range 1 + source.Intn(256-f.First) {
			c := char(source.Intn(len(f.Widths)), source.Intn(len(f.Heights)), source.Intn(len(f.Depths)), source.Intn(len(f.Italics)), 0, 0)
			if len(f.Steps) > 0 && source.Intn(2) == 0 {
				c.Tag, c.Rem = 1, source.Intn(len(f.Steps))
			}
			f.Chars = append(f.Chars, c)
		}
		all = append(all, f)
	}
	return all
}

// copied is a font that shares no memory.
func copied(f api.Font) api.Font {
	f.Chars, f.Steps = slices.Clone(f.Chars), slices.Clone(f.Steps)
	for _, l := range lists(&f) {
		*l = slices.Clone(*l)
	}
	return f
}

// lists are a font's lists of numbers.
func lists(f *api.Font) []*[]int {
	return []*[]int{&f.Widths, &f.Heights, &f.Depths, &f.Italics, &f.Kerns, &f.Params}
}

// numbers are all that a font is made of.
func numbers(f *api.Font) []*int {
	all := []*int{&f.Sum, &f.Design, &f.First}
	for i := range f.Chars {
		c := &f.Chars[i]
		all = append(all, &c.Width, &c.Height, &c.Depth, &c.Italic, &c.Tag, &c.Rem)
	}
	for i := range f.Steps {
		s := &f.Steps[i]
		all = append(all, &s.Skip, &s.Next, &s.Op, &s.Rem)
	}
	for _, l := range lists(f) {
		for i := range *l {
			all = append(all, &(*l)[i])
		}
	}
	return all
}

// same tells whether two fonts are one; a list without elements may be nil.
func same(f, g api.Font) bool {
	a, b := lists(&f), lists(&g)
	for i := range a {
		if !slices.Equal(*a[i], *b[i]) {
			return false
		}
	}
	return f.Sum == g.Sum && f.Design == g.Design && f.First == g.First && slices.Equal(f.Chars, g.Chars) && slices.Equal(f.Steps, g.Steps)
}

// mayBe is what the chapter's words ask of Check.
func mayBe(f api.Font) bool {
	wrong := 0
	count := func(right bool) {
		if !right {
			wrong++
		}
	}
	in := func(n, low, beyond int) { count(n >= low && n < beyond) }
	in(f.Sum, 0, 4*ten*ten*ten)
	in(f.Design, ten*ten, 2*ten*ten*ten)
	in(f.First, 0, 256)
	count(len(f.Chars) >= 1 && f.First+len(f.Chars) <= 256)
	for i, l := range lists(&f) {
		in(len(*l), []int{1, 1, 1, 1, 0, 0}[i], []int{257, 17, 17, 65, 257, 31}[i])
		for at, n := range *l {
			in(n, -16*ten*ten, 16*ten*ten)
			count(at > 0 || i > 3 || n == 0)
		}
	}
	in(len(f.Steps), 0, 257)
	for _, c := range f.Chars {
		in(c.Width, 0, len(f.Widths))
		in(c.Height, 0, len(f.Heights))
		in(c.Depth, 0, len(f.Depths))
		in(c.Italic, 0, len(f.Italics))
		switch c.Tag {
		case 0:
			in(c.Rem, 0, 1)
		case 1:
			in(c.Rem, 0, len(f.Steps))
		default:
			count(false)
		}
	}
	for _, s := range f.Steps {
		for _, n := range []int{s.Skip, s.Next, s.Op, s.Rem} {
			in(n, 0, 256)
		}
	}
	return wrong == 0
}

// asBytes are the bytes of a font, one that may not be, too; what does not fit is cut.
func asBytes(f api.Font) []byte {
	var b []byte
	words := 6 + 2 + len(f.Chars) + len(f.Steps)
	for _, l := range lists(&f) {
		words += len(*l)
	}
	for _, n := range []int{words, 2, f.First, f.First + len(f.Chars) - 1, len(f.Widths), len(f.Heights), len(f.Depths), len(f.Italics), len(f.Steps), len(f.Kerns), 0, len(f.Params)} {
		b = binary.BigEndian.AppendUint16(b, uint16(n))
	}
	put := func(l ...int) {
		for _, n := range l {
			b = binary.BigEndian.AppendUint32(b, uint32(int32(n)))
		}
	}
	put(f.Sum, f.Design)
	for _, c := range f.Chars {
		b = append(b, byte(c.Width), byte(c.Height<<4|c.Depth&15), byte(c.Italic<<2|c.Tag&3), byte(c.Rem))
	}
	put(slices.Concat(f.Widths, f.Heights, f.Depths, f.Italics)...)
	for _, s := range f.Steps {
		b = append(b, byte(s.Skip), byte(s.Next), byte(s.Op), byte(s.Rem))
	}
	put(slices.Concat(f.Kerns, f.Params)...)
	return b
}

// read is what the chapter's words ask of Read.
func read(b []byte) (api.Font, api.Errno) {
	f, whole := decoded(b)
	if !whole || !mayBe(f) || !bytes.Equal(asBytes(f), b) {
		return api.Font{}, api.ErrTfm
	}
	return f, api.OK
}

// decoded is the font that bytes tell of by their counts, and whether there are as many as those ask for.
func decoded(b []byte) (api.Font, bool) {
	if len(b) < 32 {
		return api.Font{}, false
	}
	head := make([]int, 12)
	for i := range head {
		head[i] = int(binary.BigEndian.Uint16(b[2*i:]))
	}
	f := api.Font{First: head[2], Sum: int(binary.BigEndian.Uint32(b[24:])), Design: int(binary.BigEndian.Uint32(b[28:]))}
	chars := head[3] - head[2] + 1
	if chars < 1 || len(b) != 4*(8+chars+head[4]+head[5]+head[6]+head[7]+head[8]+head[9]+head[11]) {
		return f, false
	}
	b = b[32:]
	for range chars {
		f.Chars = append(f.Chars, char(int(b[0]), int(b[1]>>4), int(b[1]&15), int(b[2]>>2), int(b[2]&3), int(b[3])))
		b = b[4:]
	}
	for i, l := range lists(&f) {
		if i == 4 {
			for range head[8] {
				f.Steps = append(f.Steps, step(int(b[0]), int(b[1]), int(b[2]), int(b[3])))
				b = b[4:]
			}
		}
		for range head[[]int{4, 5, 6, 7, 9, 11}[i]] {
			*l = append(*l, int(int32(binary.BigEndian.Uint32(b))))
			b = b[4:]
		}
	}
	return f, true
}

// has is what the chapter's words ask of Has.
func has(f api.Font, code int) bool {
	for i, c := range f.Chars {
		if f.First+i == code {
			return mayBe(f) && c.Width != 0
		}
	}
	return false
}
