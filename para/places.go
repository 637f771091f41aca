package para

import (
	"iter"
	"sort"

	"compositor/api"
	"compositor/hyph"
	"compositor/trie"
)

// paragraph is words that may be, and the points of codes, nil where these are not asked for.
type paragraph struct {
	words  []api.Word
	points func(codes []int) []int
}

// points finds those of codes.
func points(t *trie.Trie, but []api.Exception, l api.Layout) func(codes []int) []int {
	return func(codes []int) []int { return hyph.Points(t, but, codes, l.Left, l.Right) }
}

// breaks are a paragraph's, in order, from its start on.
func (p paragraph) breaks() iter.Seq[api.Break] {
	return func(yield func(api.Break) bool) {
		if !yield(api.Break{Kind: api.BStart}) {
			return
		}
		for word := range p.words {
			for _, b := range p.places(word) {
				if !yield(b) {
					return
				}
			}
		}
	}
}

// places are a word's, in order, the one behind it among them.
func (p paragraph) places(word int) list {
	var l list
	for at, kind := range p.kinds(word) {
		l = append(l, api.Break{Kind: kind, Word: word, At: at})
	}
	sort.Slice(l, l.before)
	return l
}

// kinds are those of a word's places, by behind how many of its codes they are. Where two kinds meet, the one that is put later stands.
func (p paragraph) kinds(word int) map[int]int {
	w, kinds := p.words[word], map[int]int{}
	if p.points != nil && len(w.Soft) == 0 {
		for _, at := range p.points(w.Codes) {
			kinds[at] = api.BHyph
		}
	}
	for at, code := range w.Codes {
		if code == api.Hyphen {
			kinds[at+1] = api.BDash
		}
	}
	for _, at := range w.Soft {
		kinds[at] = api.BSoft
	}
	// An exception may have a word parted ahead of all its codes.
	delete(kinds, 0)
	kinds[len(w.Codes)] = api.BSpace
	if word == len(p.words)-1 {
		kinds[len(w.Codes)] = api.BEnd
	}
	return kinds
}

// list is breaks that can be sorted.
type list []api.Break

// before tells whether one of them is ahead of another one, by their places in the list.
func (l list) before(i, k int) bool { return Before(l[i], l[k]) }
