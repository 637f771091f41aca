package hyph_test

import (
	"math"
	"math/rand"
	"regexp"
	"slices"
	"strings"

	"compositor/api"
	"compositor/trie"
)

// What the chapter's words ask, told another way than the package tells it; and patterns, exceptions and words to ask it of.

// az are letters, as many as a core has at most, no two neighbours of which are one.
const az = "abcdefghijklmnopqrstuvwxyzyxwvutsrqponml"

const alphabet = "ABCDEFGHIJKLMNOPQRSTUVWXYZabcdefghijklmnopqrstuvwxyz"

var coreForm = regexp.MustCompile(`^[a-z]{1,40}$`)

// core is what the chapter's words ask of Core: the codes are written as a text, in which each that is no letter is a blank.
func core(word []int) (string, int) {
	text := make([]byte, len(word))
	for i, code := range word {
		text[i] = ' '
		if code == int(byte(code)) && strings.IndexByte(alphabet, byte(code)) >= 0 {
			text[i] = byte(code)
		}
	}
	letters := strings.ToLower(strings.Trim(string(text), " "))
	if !coreForm.MatchString(letters) {
		return "", 0
	}
	return letters, len(word) - len(strings.TrimLeft(string(text), " "))
}

// points are what the chapter's words ask of Points: all places are taken, and those that may not be fall out, one rule behind the other.
func points(t *trie.Trie, but []api.Exception, word []int, left, right int) []int {
	letters, ahead := core(word)
	if t == nil || letters == "" {
		return nil
	}
	var l []int
	excepted := false
	for i := len(but) - 1; i >= 0; i-- {
		if but[i].Word == letters {
			l, excepted = slices.Clone(but[i].At), true
		}
	}
	if !excepted {
		for i, v := range t.Values(letters) {
			if i != 0 && i != len(letters) && slices.Contains([]int{1, 3, 5, 7, 9}, v) {
				l = append(l, i)
			}
		}
	}
	l = slices.DeleteFunc(l, func(place int) bool { return place < left })
	l = slices.DeleteFunc(l, func(place int) bool { return place > len(letters) })
	l = slices.DeleteFunc(l, func(place int) bool { return int64(uint64(len(letters))-uint64(place)) < int64(right) })
	for i := range l {
		l[i] += ahead
	}
	return l
}

// codes are those of a text's bytes.
func codes(text string) []int {
	var l []int
	for i := range len(text) {
		l = append(l, int(text[i]))
	}
	return l
}

// around is a word: a text, with codes ahead of it and behind it.
func around(ahead []int, text string, behind ...int) []int {
	return slices.Concat(ahead, codes(text), behind)
}

// of is a pattern, and but an exception.
func of(letters string, values ...int) api.Pattern {
	return api.Pattern{Letters: letters, Values: values}
}

func but(word string, at ...int) api.Exception { return api.Exception{Word: word, At: at} }

// flat is a pattern all of whose Values are one.
func flat(letters string, value int) api.Pattern {
	return of(letters, slices.Repeat([]int{value}, len(letters)+1)...)
}

// upTo are the numbers from one to another one.
func upTo(from, to int) []int {
	var l []int
	for n := from; n <= to; n++ {
		l = append(l, n)
	}
	return l
}

// noLetters are codes of all kinds that are no letters: beside these, and those whose lowest bytes, or lowest half, would be a letter's.
func noLetters() []int {
	l := []int{math.MinInt, math.MinInt + 1, math.MinInt + 'a', math.MinInt + 'Z', -1 << 32, math.MaxInt, math.MaxInt - 1, math.MaxInt - 'a', 1 << 32, 1 << 20, 0x17f, 0x212a, 0xff41, 0x10ffff, 0x110000}
	for _, base := range []int{128, 256, 512, 1 << 16, 1 << 31, 1 << 32, 1 << 40, 1 << 62, -128, -256, -512, -1 << 16, -1 << 32, -1 << 40, math.MinInt} {
		l = append(l, base, base+'A', base+'M', base+'Z', base+'a', base+'m', base+'z')
	}
	for code := -300; code <= 400; code++ {
		if code < 'A' || code > 'z' || code > 'Z' && code < 'a' {
			l = append(l, code, -code-'a')
		}
	}
	l = slices.DeleteFunc(l, func(code int) bool { return code >= 'A' && code <= 'Z' || code >= 'a' && code <= 'z' })
	slices.Sort(l)
	return slices.Compact(l)
}

// far are numbers of all kinds for places, and for left and right, of a core of so many letters.
func far(letters int) []int {
	l := []int{math.MinInt, math.MinInt + 1, math.MinInt + letters - 1, math.MinInt + letters, math.MinInt + letters + 1, math.MinInt + 99, -1 << 62, -1 << 32, -99, -2, -1, 0, 1, 2, 3, letters - 2, letters - 1, letters, letters + 1, letters + 2, 40, 41, 99, 1 << 32, 1 << 62, math.MaxInt - letters - 1, math.MaxInt - letters, math.MaxInt - letters + 1, math.MaxInt - 1, math.MaxInt}
	slices.Sort(l)
	return slices.Compact(l)
}

// few are letters of which patterns and words are made, so that they often meet.
const few = "aab"

// anyLetters are some letters, one at least.
func anyLetters(source *rand.Rand, most int) string {
	b := make([]byte, 1+source.Intn(most))
	for i := range b {
		b[i] = few[source.Intn(len(few))]
	}
	return string(b)
}

// job is all that Points is asked of, but for left and right.
type job struct {
	patterns []api.Pattern
	but      []api.Exception
	word     []int
}

// some are jobs of all kinds, the same ones every time.
func some(count int) []job {
	source := rand.New(rand.NewSource(12))
	all := make([]job, count)
	for i := range all {
		j := &all[i]
		for range source.Intn(6) {
			x := flat([]string{"", "", "."}[source.Intn(3)]+anyLetters(source, 4)+[]string{"", "", "."}[source.Intn(3)], 0)
			for k := range x.Values {
				x.Values[k] = max(0, source.Intn(19)-9)
			}
			j.patterns = append(j.patterns, x)
		}
		letters := anyLetters(source, []int{3, 8, 43}[source.Intn(3)])
		for range source.Intn(4) {
			j.but = append(j.but, anyException(source, letters))
		}
		j.word = anyWord(source, letters)
	}
	return all
}

// anyException is one of a word, or of one that is near to it, hand-made.
func anyException(source *rand.Rand, letters string) api.Exception {
	x := but([]string{letters, letters, letters, letters + "a", letters[:len(letters)/2], strings.ToUpper(letters), "(" + letters + ")"}[source.Intn(7)])
	for range source.Intn(6) {
		numbers := far(len(letters))
		x.At = append(x.At, []int{source.Intn(len(letters) + 1), source.Intn(len(letters) + 1), numbers[source.Intn(len(numbers))]}[source.Intn(3)])
	}
	return x
}

// anyWord is a word of letters, some of which are great ones, with codes that are no letters ahead, behind, and now and then in the middle.
func anyWord(source *rand.Rand, letters string) []int {
	others := noLetters()
	other := func(most int) []int {
		var l []int
		for range source.Intn(most + 1) {
			l = append(l, others[source.Intn(len(others))])
		}
		return l
	}
	word := codes(letters)
	for i := range word {
		word[i] -= 32 * source.Intn(2)
	}
	if source.Intn(6) == 0 {
		word = slices.Insert(word, source.Intn(len(word)+1), other(2)...)
	}
	return slices.Concat(other(4), word, other(4))
}

// copied is a job that shares no memory.
func copied(j job) job {
	q := job{word: slices.Clone(j.word)}
	for _, x := range j.patterns {
		q.patterns = append(q.patterns, of(x.Letters, slices.Clone(x.Values)...))
	}
	for _, x := range j.but {
		q.but = append(q.but, but(x.Word, slices.Clone(x.At)...))
	}
	return q
}

// sameBut tells whether exceptions are one; a list without elements may be nil.
func sameBut(l, k []api.Exception) bool {
	return slices.EqualFunc(l, k, func(x, y api.Exception) bool { return x.Word == y.Word && slices.Equal(x.At, y.At) })
}
