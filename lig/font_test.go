package lig_test

import (
	"math/rand"
	"slices"

	"compositor/api"
	"compositor/tfm"
)

// What the chapter's words ask, told another way than the package tells it; and fonts to ask it of.

func step(skip, next, op, rem int) api.Step {
	return api.Step{Skip: skip, Next: next, Op: op, Rem: rem}
}

// makes and kerns are steps, a ligature and a kern, behind which others come; last is one behind which none does.
func makes(next, rem int) api.Step { return step(0, next, 0, rem) }

func kerns(next, rem int) api.Step { return step(0, next, 128, rem) }

func last(s api.Step) api.Step {
	s.Skip = 128
	return s
}

// bare is a font without steps, that has so many characters from First on.
func bare(first, count int) api.Font {
	return api.Font{Design: 1 << 20, First: first, Chars: slices.Repeat([]api.Char{{Width: 1}}, count), Widths: []int{0, 5}, Heights: []int{0}, Depths: []int{0}, Italics: []int{0}}
}

// begin has a code's steps begin at a place.
func begin(f *api.Font, code, at int) {
	c := &f.Chars[code-f.First]
	c.Tag, c.Rem = 1, at
}

// program adds a code's steps behind those that are there, the last of which is the last one of that code.
func program(f *api.Font, code int, l ...api.Step) {
	begin(f, code, len(f.Steps))
	f.Steps = append(f.Steps, l...)
	f.Steps[len(f.Steps)-1].Skip = 128
}

// plain is the font of the chapter's example, with all characters.
func plain() api.Font {
	f := bare(0, 256)
	program(&f, 'f', makes('i', 128))
	return f
}

// typical is a font as there are: ligatures of ligatures, kerns below 0, of 0 and above, steps that some characters share, and such as nothing reaches.
func typical() api.Font {
	f := bare(33, 110)
	f.Kerns = []int{-27779, 0, 19444, 1<<24 - 1, -1 << 24}
	program(&f, 'f', makes('f', 130), makes('i', 128), kerns('?', 2), kerns('f', 0), makes('l', 131))
	program(&f, 130, makes('i', 132), makes('l', 133), kerns('?', 0), kerns('x', 3))
	program(&f, 128, kerns('?', 1), kerns('f', 4))
	program(&f, 'a', kerns('v', 0), kerns('b', 2), kerns('a', 1))
	f.Steps = append(f.Steps, step(255, 'f', 77, 0), step(0, 0, 0, 1))
	begin(&f, 'b', f.Chars['a'-33].Rem)
	begin(&f, 'v', f.Chars['a'-33].Rem+1)
	f.Chars['q'-33].Width = 0
	return f
}

// full is the font with the most ligatures, each of the one ahead, the first one of z and a.
func full() api.Font {
	f := bare(0, 256)
	program(&f, 'z', makes('a', 128))
	for code := 128; code < 255; code++ {
		program(&f, code, makes('a', code+1))
	}
	return f
}

// crowd is a font all of whose characters have all steps.
func crowd() api.Font {
	f := bare(0, 256)
	for n := range 256 {
		f.Steps = append(f.Steps, kerns(n, n))
		f.Kerns = append(f.Kerns, n-100)
		begin(&f, n, 0)
	}
	f.Steps[255].Skip = 200
	return f
}

// some are fonts of all kinds, the same ones every time, whose programs may be.
func some(count int) []api.Font {
	source := rand.New(rand.NewSource(8))
	var all []api.Font
	for range count {
		f := bare(source.Intn(97), 1)
		if source.Intn(4) > 0 {
			f = bare(f.First, 256-f.First)
		}
		for range source.Intn(40) {
			f.Kerns = append(f.Kerns, source.Intn(41)-20)
		}
		for i := range f.Chars {
			f.Chars[i].Width = min(1, source.Intn(9))
		}
		free := source.Perm(128)
		for range source.Intn(40) {
			free = addProgram(source, &f, free)
		}
		all = append(all, f)
	}
	return all
}

// addProgram gives a character steps, and tells which of 128 codes none makes yet.
func addProgram(source *rand.Rand, f *api.Font, free []int) []int {
	code := f.First + source.Intn(len(f.Chars))
	if source.Intn(2) == 0 {
		code = f.First + (97+source.Intn(6)-f.First)%len(f.Chars)
	}
	if f.Chars[code-f.First].Tag == 1 {
		return free
	}
	var l []api.Step
	for range 1 + source.Intn(9) {
		next := 97 + source.Intn(6)
		known := slices.ContainsFunc(l, func(s api.Step) bool { return s.Next == next })
		at := slices.IndexFunc(free, func(n int) bool { return 128+n > code && there(*f, 128+n) })
		switch {
		case known && source.Intn(2) == 0:
			l = append(l, makes(next, source.Intn(256))) // not the rule: it makes whatever it likes
		case !known && at >= 0 && source.Intn(2) == 0:
			l = append(l, makes(next, 128+free[at]))
			free = slices.Delete(free, at, at+1)
		case len(f.Kerns) > 0:
			l = append(l, kerns(next, source.Intn(len(f.Kerns))))
		}
	}
	if l = spread(source, l); len(l) > 0 && len(f.Steps)+len(l) <= 256 {
		program(f, code, l...)
	}
	return free
}

// spread puts steps that nothing reaches between those of one character.
func spread(source *rand.Rand, l []api.Step) []api.Step {
	var wide []api.Step
	for _, s := range l {
		if len(wide) > 0 {
			skip := source.Intn(3)
			wide[len(wide)-1].Skip = skip
			for range skip {
				wide = append(wide, step(source.Intn(256), 97+source.Intn(6), source.Intn(256), source.Intn(256)))
			}
		}
		wide = append(wide, s)
	}
	return wide
}

// copied is a font that shares no memory.
func copied(f api.Font) api.Font {
	f.Chars, f.Steps = slices.Clone(f.Chars), slices.Clone(f.Steps)
	for _, l := range lists(&f) {
		*l = slices.Clone(*l)
	}
	return f
}

// lists are a font's lists of numbers.
func lists(f *api.Font) []*[]int {
	return []*[]int{&f.Widths, &f.Heights, &f.Depths, &f.Italics, &f.Kerns, &f.Params}
}

// same tells whether two fonts are one; a list without elements may be nil.
func same(f, g api.Font) bool {
	a, b := lists(&f), lists(&g)
	for i := range a {
		if !slices.Equal(*a[i], *b[i]) {
			return false
		}
	}
	return f.Sum == g.Sum && f.Design == g.Design && f.First == g.First && slices.Equal(f.Chars, g.Chars) && slices.Equal(f.Steps, g.Steps)
}

// there tells whether a font, that may be, has a character.
func there(f api.Font, code int) bool {
	for i, c := range f.Chars {
		if f.First+i == code {
			return c.Width > 0
		}
	}
	return false
}

// chain are the steps from a place on, and whether all of them are there.
func chain(f api.Font, at int) ([]api.Step, bool) {
	var l []api.Step
	for at < len(f.Steps) {
		l = append(l, f.Steps[at])
		if f.Steps[at].Skip > 127 {
			return l, true
		}
		at += f.Steps[at].Skip + 1
	}
	return l, false
}

// words are what the chapter's words tell of a font: whether its program may be, and its rules, by both codes.
type words struct {
	font  api.Font
	may   bool
	rules map[[2]int]api.Step
}

// wordsOf tells these.
func wordsOf(f api.Font) words {
	w := words{f, tfm.Check(f), map[[2]int]api.Step{}}
	if !w.may {
		return w
	}
	for i, c := range f.Chars {
		if c.Tag == 0 {
			continue
		}
		l, whole := chain(f, c.Rem)
		w.may = w.may && whole
		for _, s := range slices.Backward(l) { // so that the first one of one Next stays
			w.rules[[2]int{f.First + i, s.Next}] = s
			if s.Op > 0 && s.Op < 128 || s.Op > 127 && 256*(s.Op-128)+s.Rem > len(f.Kerns)-1 {
				w.may = false
			}
		}
	}
	times := make([]int, 256)
	for of, s := range w.rules {
		if s.Op != 0 {
			continue
		}
		times[s.Rem]++
		if s.Rem < 128 || s.Rem <= of[0] || of[1] > 127 || !there(f, s.Rem) || times[s.Rem] > 1 {
			w.may = false
		}
	}
	return w
}

// set is what the chapter's words ask of Set.
func (w words) set(codes []int) ([]api.Glyph, api.Errno) {
	if !w.may {
		return nil, api.ErrTfm
	}
	if slices.ContainsFunc(codes, func(code int) bool { return code <= 32 || code >= 127 || !there(w.font, code) }) {
		return nil, api.ErrChar
	}
	var l []api.Glyph
	for left := slices.Clone(codes); len(left) > 0; left = left[1:] {
		l = append(l, api.Glyph{Code: left[0]})
		if len(left) == 1 {
			break
		}
		if r, ruled := w.rules[[2]int(left)]; ruled && r.Op == 0 {
			l, left[1] = l[:len(l)-1], r.Rem
		} else if ruled {
			l[len(l)-1].Kern = w.font.Kerns[256*(r.Op-128)+r.Rem]
		}
	}
	return l, api.OK
}

// expand is what the chapter's words ask of Expand: as long as there is one that is made, what it is made of in its place.
func (w words) expand(codes []int) ([]int, api.Errno) {
	if !w.may {
		return nil, api.ErrTfm
	}
	var l []int
	for _, code := range codes {
		own := []int{code}
		for more := true; more; {
			more = false
			for of, s := range w.rules {
				if s.Op == 0 && s.Rem == own[0] {
					own, more = slices.Replace(own, 0, 1, of[0], of[1]), true
				}
			}
		}
		l = append(l, own...)
	}
	return l, api.OK
}

// codesOf are the codes of glyphs.
func codesOf(l []api.Glyph) []int {
	var codes []int
	for _, g := range l {
		codes = append(codes, g.Code)
	}
	return codes
}
