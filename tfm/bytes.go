package tfm

import (
	"slices"

	"compositor/api"
	"compositor/pack"
)

// heads is how many numbers a font's bytes begin with, and headWords how many words these and the two behind them have; word is how many bytes a word has, and a character, and a step; tags is how many tags there is room for.
const (
	heads     = 12
	headWords = 8
	word      = 4
	tags      = 4
)

// putter are a font's bytes, as far as they are put.
type putter struct{ all []byte }

// numbers puts numbers, each in so many bytes. None fails, as the font may be.
func (p *putter) numbers(size int, l ...int) {
	for _, n := range l {
		b, _ := pack.Put(nil, n, size)
		p.all = append(p.all, b...)
	}
}

// fixes puts fixes. None fails, as the font may be.
func (p *putter) fixes(l []int) {
	for _, n := range l {
		b, _ := pack.PutFix(nil, n)
		p.all = append(p.all, b...)
	}
}

// head are the numbers that a font's bytes begin with.
func head(f api.Font) []int {
	words := headWords + len(f.Chars) + len(f.Widths) + len(f.Heights) + len(f.Depths) + len(f.Italics) + len(f.Steps) + len(f.Kerns) + len(f.Params)
	return []int{words, 2, f.First, f.First + len(f.Chars) - 1, len(f.Widths), len(f.Heights), len(f.Depths), len(f.Italics), len(f.Steps), len(f.Kerns), 0, len(f.Params)}
}

// taker are the bytes that are still to be taken.
type taker struct{ left []byte }

// cut are the next bytes, and none behind them, as pack copies what is behind.
func (t *taker) cut(size int) []byte {
	size = min(size, len(t.left))
	b := t.left[:size]
	t.left = t.left[size:]
	return b
}

// number takes one of so many bytes.
func (t *taker) number(size int) (int, api.Errno) {
	n, _, e := pack.Take(t.cut(size), size)
	return n, e
}

// one, two and four take a number of so many bytes.
func (t *taker) one() (int, api.Errno)  { return t.number(1) }
func (t *taker) two() (int, api.Errno)  { return t.number(2) }
func (t *taker) four() (int, api.Errno) { return t.number(4) }

// fix takes one that may be below 0.
func (t *taker) fix() (int, api.Errno) {
	n, _, e := pack.TakeFix(t.cut(word))
	return n, e
}

// part is a part of a font's bytes: so many numbers, how one of them is taken, and where they go.
type part struct {
	count int
	take  func() (int, api.Errno)
	into  *[]int
}

// take takes parts, one behind the other, up to the first number that lacks bytes.
func take(parts ...part) api.Errno {
	e := api.OK
taking:
	for _, p := range parts {
		for range p.count {
			n := 0
			if n, e = p.take(); e != api.OK {
				break taking
			}
			*p.into = append(*p.into, n)
		}
	}
	return e
}

// taken is the font that bytes tell of, whether it may be or not, and whether they are its bytes or not.
func taken(b []byte) (api.Font, api.Errno) {
	t := &taker{b}
	var h, sizes, chars, steps []int
	if e := take(part{heads, t.two, &h}); e != api.OK {
		return api.Font{}, e
	}
	f := api.Font{First: h[2]}
	e := take(
		part{2, t.four, &sizes},
		part{word * (h[3] - h[2] + 1), t.one, &chars},
		part{h[4], t.fix, &f.Widths},
		part{h[5], t.fix, &f.Heights},
		part{h[6], t.fix, &f.Depths},
		part{h[7], t.fix, &f.Italics},
		part{word * h[8], t.one, &steps},
		part{h[9], t.fix, &f.Kerns},
		part{h[11], t.fix, &f.Params},
	)
	if e != api.OK {
		return api.Font{}, e
	}
	f.Sum, f.Design = sizes[0], sizes[1]
	for c := range slices.Chunk(chars, word) {
		f.Chars = append(f.Chars, api.Char{Width: c[0], Height: c[1] / maxDepths, Depth: c[1] % maxDepths, Italic: c[2] / tags, Tag: c[2] % tags, Rem: c[3]})
	}
	for s := range slices.Chunk(steps, word) {
		f.Steps = append(f.Steps, api.Step{Skip: s[0], Next: s[1], Op: s[2], Rem: s[3]})
	}
	return f, api.OK
}
