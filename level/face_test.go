package level_test

import (
	"math"
	"math/big"
	"math/rand"
	"slices"

	"compositor/api"
	"compositor/lig"
	"compositor/tfm"
)

// What the chapter's words ask, told another way than the package tells it; and faces to ask it of.

// ten is 2^10, of which the chapter's bounds are made.
const ten = 1 << 10

func trait(code, stretch, left, right int) api.Trait {
	return api.Trait{Code: code, Stretch: stretch, Left: left, Right: right}
}

// bare is a font without steps, whose characters, from First on, have these widths, each of a place of its own; one more, behind them, is not there.
func bare(first int, widths ...int) api.Font {
	f := api.Font{Design: ten * ten, First: first, Widths: append([]int{0}, widths...), Heights: []int{0}, Depths: []int{0}, Italics: []int{0}}
	for i := range widths {
		f.Chars = append(f.Chars, api.Char{Width: i + 1})
	}
	if first+len(widths) < 256 {
		f.Chars = append(f.Chars, api.Char{})
	}
	return f
}

// face is one of a font, at 2^20, at which a fix is a point.
func face(f api.Font, step, down, up int, traits ...api.Trait) api.Face {
	return api.Face{Font: f, Size: ten * ten, Step: step, Up: up, Down: down, Traits: traits}
}

// example is the chapter's.
func example() api.Face { return face(bare('a', ten*ten), 20, 0, 2) }

// plain is a face of a few characters, from 65 on, at levels from -3 to 2, by steps of 20, with traits of 65, of 67, and of 68, which is not there, and with a program.
func plain() api.Face {
	f := bare(65, 500000, 0, -777777, 1<<24-1, -1<<24, 1, -1, 123456)
	f.Chars[3].Width = 0
	f.Chars[0].Tag = 1
	f.Kerns = []int{-27779, 0, 19444}
	f.Steps = []api.Step{{Next: 67, Op: 128}, {Skip: 128, Next: 65, Op: 128, Rem: 2}}
	return face(f, 20, 3, 2, trait(65, 250, 70, -30), trait(67, 0, -1000, 1000), trait(68, 1, 2, 3), trait(70, 999, 1, -1), trait(200, 5, 5, 5))
}

// quiet is the face with the fewest parts, and without levels.
func quiet() api.Face { return api.Face{Font: bare(255, 7), Size: ten * 64} }

// full is a face of all characters, that is as great, and has as many levels and traits, as may be; its program has the most ligatures.
func full() api.Face {
	f := bare(0, slices.Repeat([]int{1<<24 - 1, -1 << 24, 0, 1, -1}, 51)...)
	for code := range 255 {
		f.Chars[code].Width = code + 1
	}
	f.Chars[254].Tag, f.Chars[254].Rem = 1, 0
	f.Chars[255].Width = 1
	f.Steps = []api.Step{{Skip: 200, Next: 'a', Op: 0, Rem: 255}}
	for code := 128; code < 254; code++ {
		f.Chars[code].Tag, f.Chars[code].Rem = 1, len(f.Steps)
		f.Steps = append(f.Steps, api.Step{Skip: 128, Next: 'a', Op: 0, Rem: code + 1})
	}
	x := api.Face{Font: f, Size: 4 * ten * ten, Step: 50, Up: 8, Down: 8}
	for code := range 256 {
		x.Traits = append(x.Traits, trait(code, (code*37)%1001, (code*101)%2001-1000, 1000-(code*59)%2001))
	}
	return x
}

// some are faces of all kinds, the same ones every time, that may be.
func some(count int) []api.Face {
	source := rand.New(rand.NewSource(9))
	fix := func() int { return (source.Intn(1<<25) - 1<<24) >> source.Intn(24) }
	var all []api.Face
	for range count {
		f := bare(source.Intn(150), slices.Repeat([]int{0}, 1+source.Intn(60))...)
		for i := range f.Widths[1:] {
			f.Widths[i+1] = fix()
		}
		for i := range f.Chars {
			f.Chars[i].Width = source.Intn(len(f.Widths))
		}
		f.Design += source.Intn(1 << 30)
		f.Kerns, f.Steps = []int{fix()}, []api.Step{{Skip: 128, Next: 'a', Op: 128}}
		f.Chars[0].Tag = source.Intn(2)
		x := api.Face{Font: f, Size: ten*64<<source.Intn(7) - source.Intn(2), Step: source.Intn(51), Up: source.Intn(9), Down: source.Intn(9)}
		x.Size = max(x.Size, ten*64)
		for code := source.Intn(100); code < 256; code += 1 + source.Intn(30) {
			x.Traits = append(x.Traits, trait(code, source.Intn(1001), source.Intn(2001)-1000, source.Intn(2001)-1000))
		}
		all = append(all, x)
	}
	return all
}

// faces are such as may be.
func faces() []api.Face { return append(some(40), example(), plain(), quiet(), full()) }

// levels are levels of a face, and such as it does not have, of any size.
func levels(f api.Face) []int {
	l := []int{math.MinInt, math.MinInt + 1, -1 << 62, 1 - 1<<32, -1 << 32, -1 << 31, -256, 255, 1 << 31, 1 << 32, 1<<32 + 1, 1 << 62, math.MaxInt - 1, math.MaxInt}
	for n := -10; n < 11; n++ {
		l = append(l, n)
	}
	return append(l, -f.Down-1, -f.Down, f.Up, f.Up+1)
}

// codes are codes of a font, the first and the last one, one beyond each, and such as none has.
func codes(f api.Font) []int {
	end := f.First + len(f.Chars)
	l := []int{math.MinInt, -1 << 32, f.First - 1<<32, f.First - 256, -1, 0, f.First - 1, f.First, f.First + 1, end - 2, end - 1, end, end + 1, 255, 256, f.First + 256, f.First + 1<<32, math.MaxInt}
	for i := range f.Chars {
		l = append(l, f.First+i)
	}
	return l
}

// fixes are fixes, both ends among them, and such numbers beyond them as are none.
func fixes() []int {
	l := []int{math.MinInt, -1 << 62, -1 << 32, -1<<24 - 1, 1 << 24, 1<<24 + 1, 1 << 32, 1<<32 + 5, 1 << 62, math.MaxInt}
	l = append(l, -1<<24, 1-1<<24, -500001, -27779, -1000, -3, -2, -1, 0, 1, 2, 3, 49, 50, 51, 999, 1000, 1001, 19444, 500000, 1<<20-1, 1<<20, 1<<24-2, 1<<24-1)
	return l
}

// floor is the greatest whole number that, times c, is not above the product of factors.
func floor(c int, factors ...int) int {
	p := big.NewInt(1)
	for _, n := range factors {
		p.Mul(p, big.NewInt(int64(n)))
	}
	return int(p.Div(p, big.NewInt(int64(c))).Int64())
}

// mayBe is what the chapter's words ask of Check.
func mayBe(f api.Face) bool {
	may := lig.Check(f.Font)
	in := func(n, low, high int) {
		if n < low || n > high {
			may = false
		}
	}
	in(f.Size, 64*ten, 4*ten*ten)
	in(f.Step, 0, 50)
	in(f.Up, 0, 8)
	in(f.Down, 0, 8)
	for i, t := range f.Traits {
		in(t.Code, 0, 255)
		in(t.Stretch, 0, 1000)
		in(t.Left, -1000, 1000)
		in(t.Right, -1000, 1000)
		if i > 0 && t.Code <= f.Traits[i-1].Code {
			may = false
		}
	}
	return may
}

// clamp is what they ask of Clamp.
func clamp(f api.Face, level int) int {
	if !mayBe(f) {
		return 0
	}
	return clamped(f, level)
}

// clamped is it of a face that may be.
func clamped(f api.Face, level int) int {
	if level > f.Up {
		return f.Up
	}
	if level < -f.Down {
		return -f.Down
	}
	return level
}

// traitOf is a character's.
func traitOf(f api.Face, code int) api.Trait {
	found := trait(code, 1000, 0, 0)
	for _, t := range f.Traits {
		if t.Code == code {
			found = t
		}
	}
	return found
}

// widthOf is what they ask of Width, of a face of which it is known whether it may be.
func widthOf(f api.Face, may bool, code, level int) (int, api.Errno) {
	if !may {
		return 0, api.ErrFace
	}
	if !tfm.Has(f.Font, code) {
		return 0, api.ErrChar
	}
	w := floor(1<<20, f.Font.Widths[f.Font.Chars[code-f.Font.First].Width], f.Size)
	return w + floor(1000000, w, clamped(f, level), f.Step, traitOf(f, code).Stretch), api.OK
}

// kernOf is what they ask of Kern, likewise.
func kernOf(f api.Face, may bool, fix, level int) (int, api.Errno) {
	if !may || fix < -16*ten*ten || fix >= 16*ten*ten {
		return 0, api.ErrFace
	}
	k := floor(1<<20, fix, f.Size)
	return k + floor(1000, k, clamped(f, level), f.Step), api.OK
}

// edgesOf is what they ask of Edges, likewise.
func edgesOf(f api.Face, may bool, code, level int) (int, int, api.Errno) {
	w, e := widthOf(f, may, code, level)
	if e != api.OK {
		return 0, 0, e
	}
	t := traitOf(f, code)
	return floor(1000, w, t.Left), floor(1000, w, t.Right), api.OK
}

// copied is a face that shares no memory.
func copied(f api.Face) api.Face {
	f.Traits, f.Font.Chars, f.Font.Steps = slices.Clone(f.Traits), slices.Clone(f.Font.Chars), slices.Clone(f.Font.Steps)
	for _, l := range lists(&f.Font) {
		*l = slices.Clone(*l)
	}
	return f
}

// lists are a font's lists of numbers.
func lists(f *api.Font) []*[]int {
	return []*[]int{&f.Widths, &f.Heights, &f.Depths, &f.Italics, &f.Kerns, &f.Params}
}

// same tells whether two faces are one; a list without elements may be nil.
func same(f, g api.Face) bool {
	a, b := lists(&f.Font), lists(&g.Font)
	for i := range a {
		if !slices.Equal(*a[i], *b[i]) {
			return false
		}
	}
	return f.Size == g.Size && f.Step == g.Step && f.Up == g.Up && f.Down == g.Down && slices.Equal(f.Traits, g.Traits) &&
		f.Font.Sum == g.Font.Sum && f.Font.Design == g.Font.Design && f.Font.First == g.Font.First &&
		slices.Equal(f.Font.Chars, g.Font.Chars) && slices.Equal(f.Font.Steps, g.Font.Steps)
}
