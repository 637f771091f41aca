package tfm

import "compositor/api"

// fix is the bound of fixes.
const fix = 1 << 24

// within tells whether a number is not below another one, nor above a third.
func within(n, least, most int) bool { return least <= n && n <= most }

// place tells whether a number is a place of a list that has so many elements.
func place(n, count int) bool { return 0 <= n && n < count }

// fixes tells whether there are at most so many numbers, all of them fixes.
func fixes(l []int, most int) bool {
	if len(l) > most {
		return false
	}
	for _, n := range l {
		if !within(n, -fix, fix-1) {
			return false
		}
	}
	return true
}

// table tells whether numbers may be a table that characters name places of.
func table(l []int, most int) bool { return len(l) > 0 && l[0] == 0 && fixes(l, most) }

// chars tells whether all that characters name is there.
func chars(f api.Font) bool {
	for _, c := range f.Chars {
		if !place(c.Width, len(f.Widths)) || !place(c.Height, len(f.Heights)) || !place(c.Depth, len(f.Depths)) || !place(c.Italic, len(f.Italics)) || !tagged(c, len(f.Steps)) {
			return false
		}
	}
	return true
}

// tagged tells whether a character has no steps, or the first of them is one of so many.
func tagged(c api.Char, steps int) bool {
	return c.Tag == 0 && c.Rem == 0 || c.Tag == 1 && place(c.Rem, steps)
}

// steps tells whether each part of each step is a byte's.
func steps(f api.Font) bool {
	for _, s := range f.Steps {
		if !place(s.Skip, codes) || !place(s.Next, codes) || !place(s.Op, codes) || !place(s.Rem, codes) {
			return false
		}
	}
	return true
}
