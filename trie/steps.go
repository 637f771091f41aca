package trie

import "compositor/api"

// node is a node's number: they are counted from the root's on, which is that of no letters, so that the last one's is how many there are.
type node int64

const root node = 1

// step is what leads from a node to the one that has one byte more.
type step struct {
	from node
	by   byte
}

// build makes the trie of its list.
func (t *Trie) build() {
	t.nodes.Store(int64(root))
	t.steps = map[step]node{}
	t.values = map[node][]int{}
	for _, x := range t.list {
		t.put(x)
	}
	t.list = nil
}

// put adds a pattern, whose Values go into those of others of the same Letters.
func (t *Trie) put(x api.Pattern) {
	at := root
	for i := range len(x.Letters) {
		at = t.grow(step{at, x.Letters[i]})
	}
	if t.values[at] == nil {
		t.values[at] = make([]int, len(x.Values))
	}
	lift(t.values[at], x.Values)
}

// grow is the node that a step leads to, a new one if there is none yet.
func (t *Trie) grow(s step) node {
	to, there := t.steps[s]
	if !there {
		to = node(t.nodes.Add(1))
		t.steps[s] = to
	}
	return to
}

// raise makes numbers no less than the Values of each pattern that stands where a text begins. There is a number for each place that one of these may have.
func (t *Trie) raise(numbers []int, text string) {
	at := root
	for i := range len(text) {
		to, there := t.steps[step{at, text[i]}]
		if !there {
			return
		}
		at = to
		lift(numbers, t.values[at])
	}
}

// lift makes the first ones of numbers no less than others.
func lift(numbers, others []int) {
	for i, n := range others {
		numbers[i] = max(numbers[i], n)
	}
}
