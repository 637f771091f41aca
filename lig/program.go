package lig

import (
	"iter"

	"compositor/api"
	"compositor/tfm"
)

// stop is the least Skip behind which no step comes; ligature is a ligature's Op, kern a kern's least one; values is how many numbers a step's part may be.
const (
	stop     = 128
	ligature = 0
	kern     = 128
	values   = 256
)

// pair are the codes of which a ligature is made.
type pair struct{ first, second int }

// steps are a character's, each with whether it is there; one that is not is the last.
func steps(f api.Font, c api.Char) iter.Seq2[api.Step, bool] {
	return func(yield func(api.Step, bool) bool) {
		if c.Tag == 0 {
			return
		}
		at := c.Rem
		for at < len(f.Steps) {
			s := f.Steps[at]
			if !yield(s, true) || s.Skip >= stop {
				return
			}
			at += s.Skip + 1
		}
		yield(api.Step{}, false)
	}
}

// rule is that of two codes, and whether there is one, in a program that may be.
func rule(f api.Font, first, second int) (api.Step, bool) {
	for s := range steps(f, f.Chars[first-f.First]) {
		if s.Next == second {
			return s, true
		}
	}
	return api.Step{}, false
}

// kernPlace is a kern's place in Kerns.
func kernPlace(s api.Step) int { return values*(s.Op-kern) + s.Rem }

// makings are the pairs of which rules make characters, by what they make, and whether the program may be.
func makings(f api.Font) (map[int]pair, bool) {
	if !tfm.Check(f) {
		return nil, false
	}
	made := map[int]pair{}
	for i, c := range f.Chars {
		if !learn(f, f.First+i, c, made) {
			return nil, false
		}
	}
	return made, true
}

// learn puts what one character's rules make to what is made, and tells whether they, and its steps, may be.
func learn(f api.Font, first int, c api.Char, made map[int]pair) bool {
	var ruled [values]bool // by Next, as of its steps only the first one is the rule
	for s, there := range steps(f, c) {
		if !there || !opMayBe(f, s) {
			return false
		}
		if s.Op == ligature && !ruled[s.Next] {
			if _, twice := made[s.Rem]; twice || !mayMake(f, first, s) {
				return false
			}
			made[s.Rem] = pair{first, s.Next}
		}
		ruled[s.Next] = true
	}
	return true
}

// opMayBe tells whether a step is a ligature, or a kern that is there.
func opMayBe(f api.Font, s api.Step) bool {
	return s.Op == ligature || s.Op >= kern && kernPlace(s) < len(f.Kerns)
}

// mayMake tells whether a ligature behind a code makes what it may, of a second code that it may be made of.
func mayMake(f api.Font, first int, s api.Step) bool {
	return s.Rem >= api.Made && s.Rem > first && s.Next < api.Made && tfm.Has(f, s.Rem)
}
