package trie_test

import (
	"math/rand"
	"regexp"
	"slices"
	"strings"

	"compositor/api"
)

// What the chapter's words ask, told another way than the package tells it; and patterns and words to ask it of.

// az are letters, as many as a word has at most, no two neighbours of which are one.
const az = "abcdefghijklmnopqrstuvwxyzyxwvutsrqponml"

// of is a pattern, and but an exception.
func of(letters string, values ...int) api.Pattern {
	return api.Pattern{Letters: letters, Values: values}
}

func but(word string, at ...int) api.Exception { return api.Exception{Word: word, At: at} }

// flat is a pattern all of whose Values are one.
func flat(letters string, value int) api.Pattern {
	return of(letters, slices.Repeat([]int{value}, len(letters)+1)...)
}

// rising is a pattern no neighbours of whose Values are one: from a first one on, and behind 9 from 0.
func rising(letters string, first int) api.Pattern {
	x := flat(letters, 0)
	for i := range x.Values {
		x.Values[i] = (first + i) % 10
	}
	return x
}

// list are patterns without exceptions.
func list(l ...api.Pattern) api.Patterns { return api.Patterns{List: l} }

var wordForm = regexp.MustCompile(`^[a-z]{1,40}$`)

// numbers are what the chapter's words ask of Values: each place is asked of each pattern, wherever that has to begin to have a Value for it.
func numbers(p api.Patterns, word string) []int {
	if !wordForm.MatchString(word) {
		return nil
	}
	text := "." + word + "."
	l := make([]int, len(word)+1)
	for i := range l {
		for _, x := range p.List {
			for k, v := range x.Values {
				from := 1 + i - k
				if from >= 0 && strings.HasPrefix(text[from:], x.Letters) {
					l[i] = max(l[i], v)
				}
			}
		}
	}
	return l
}

// nodes is what the chapter's words ask of Nodes.
func nodes(p api.Patterns) int {
	beginnings := []string{""}
	for _, x := range p.List {
		for n := range len(x.Letters) + 1 {
			beginnings = append(beginnings, x.Letters[:n])
		}
	}
	slices.Sort(beginnings)
	return len(slices.Compact(beginnings))
}

// copied are patterns that share no memory.
func copied(p api.Patterns) api.Patterns {
	var q api.Patterns
	for _, x := range p.List {
		q.List = append(q.List, of(x.Letters, slices.Clone(x.Values)...))
	}
	for _, x := range p.But {
		q.But = append(q.But, but(x.Word, slices.Clone(x.At)...))
	}
	return q
}

// same tells whether patterns are one; a list without elements may be nil.
func same(p, q api.Patterns) bool {
	return slices.EqualFunc(p.List, q.List, func(x, y api.Pattern) bool { return x.Letters == y.Letters && slices.Equal(x.Values, y.Values) }) &&
		slices.EqualFunc(p.But, q.But, func(x, y api.Exception) bool { return x.Word == y.Word && slices.Equal(x.At, y.At) })
}

// many are so many patterns, no two of which are one.
func many(count int) api.Patterns {
	var p api.Patterns
	for i := range count {
		p.List = append(p.List, of(string([]byte{'a' + byte(i%26), 'a' + byte(i/26)}), i%10, (i+3)%7, i/10%10))
	}
	return p
}

// few are letters of which patterns and words are made, so that they often meet.
const few = "aab"

// some are patterns of all kinds, the same ones every time, that may be.
func some(count int) []api.Patterns {
	source := rand.New(rand.NewSource(11))
	var all []api.Patterns
	for range count {
		var p api.Patterns
		for range source.Intn(12) {
			letters := []string{"", "", "."}[source.Intn(3)] + anyLetters(source, 6) + []string{"", "", "."}[source.Intn(3)]
			if source.Intn(12) == 0 {
				letters = anyLetters(source, 40)
			}
			x := flat(letters, 0)
			for i := range x.Values {
				x.Values[i] = max(0, source.Intn(19)-9)
			}
			p.List = append(p.List, x)
			if source.Intn(6) == 0 {
				p.List = append(p.List, rising(letters, source.Intn(10)))
			}
		}
		for range source.Intn(3) {
			p.But = append(p.But, but("a"+anyLetters(source, 5), 1))
		}
		all = append(all, p)
	}
	return all
}

// anyLetters are some letters, one at least.
func anyLetters(source *rand.Rand, most int) string {
	b := make([]byte, 1+source.Intn(most))
	for i := range b {
		b[i] = few[source.Intn(len(few))]
	}
	return string(b)
}

// wordsOf are words that are near to patterns: those in which one of them stands alone, at the beginning, at the end, in the middle, twice, and over itself, and those in which the half of one stands.
func wordsOf(p api.Patterns) []string {
	words := []string{"a", "b", "z", "ab", "ba", "aa", "abab", "baab", strings.Repeat("a", 40), strings.Repeat("ab", 20), az}
	for _, x := range p.List {
		l := strings.Trim(x.Letters, ".")
		words = append(words, l, l+"a", "a"+l, "b"+l, l+"b", "a"+l+"a", "b"+l+"b", l+l, l+"a"+l, l+l+l, l+l[1:], l[:len(l)-1]+l, l[:(len(l)+1)/2], l[len(l)/2:], "z"+l+"z")
	}
	return words
}

// wrong are words that may not be.
func wrong() []string {
	words := []string{"", ".", "-", " ", "\n", ".a", "a.", ".a.", "a.b", "a-b", "a b", " a", "a ", "a\n", "\na", "a\nb", "a1b", "1", "a0", "A", "Ab", "aB", "aBc", "ABC", "Z", "`", "{", "a`", "`a", "a{", "{a", "a{b", "a\x00", "\x00", "a\x00b", "é", "aé", "éa", "aéb", "ſ", "K", "ａ", "\x80", "\xff", "a\xff", "\xe1", "a\xe1b", "a\xc2\xadb", "a\ufffdb", strings.Repeat("a", 41), az + "a", "a" + az, strings.Repeat("a", 42), strings.Repeat("ab", 200), az + ".", "." + az, strings.Repeat("é", 20), strings.Repeat("A", 40)}
	for b := range 256 {
		if one := string([]byte{byte(b)}); !wordForm.MatchString(one) {
			words = append(words, one, "ab"+one, one+"ab", "a"+one+"b", az[:39]+one, one+az[:39])
		}
	}
	return words
}
