package level

import (
	"slices"

	"compositor/api"
	"compositor/muldiv"
)

// em is how many fixes a font's size has; whole is how many thousandths there are in one.
const (
	em    = 1 << 20
	whole = 1000
)

// leveled is a face, that may be, at one of its levels.
type leveled struct {
	api.Face
	level int
}

// trait is a character's.
func (l leveled) trait(code int) api.Trait {
	place := slices.IndexFunc(l.Traits, func(t api.Trait) bool { return t.Code == code })
	if place < 0 {
		return api.Trait{Code: code, Stretch: whole}
	}
	return l.Traits[place]
}

// width is that of a character that is there.
func (l leveled) width(code int) int {
	c := l.Font.Chars[code-l.Font.First]
	return l.stretched(l.points(l.Font.Widths[c.Width]), l.trait(code).Stretch)
}

// points is a fix in points.
func (l leveled) points(fix int) int { return part(fix, l.Size, em) }

// stretched is a width as it is at the level, of what goes along with that by so many thousandths.
func (l leveled) stretched(n, stretch int) int {
	return n + part(n, l.level*l.Step*stretch, whole*whole)
}

// part is a product over a number, floored. It can't fail, as all that a face that may be is made of is far from too great.
func part(a, b, c int) int {
	n, _ := muldiv.Floor(a, b, c)
	return n
}
