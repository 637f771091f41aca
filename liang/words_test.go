package liang_test

import (
	"fmt"
	"math/rand"
	"regexp"
	"slices"
	"strconv"
	"strings"

	"compositor/api"
)

// What the chapter's words ask, told another way than the package tells it; and patterns to ask it of.

// az are letters, as many as a word has at most, no two neighbours of which are one.
const az = "abcdefghijklmnopqrstuvwxyzyxwvutsrqponml"

// of is a pattern, and but an exception.
func of(letters string, values ...int) api.Pattern {
	return api.Pattern{Letters: letters, Values: values}
}

func but(word string, at ...int) api.Exception { return api.Exception{Word: word, At: at} }

// flat is a pattern all of whose Values are one.
func flat(letters string, value int) api.Pattern {
	return of(letters, slices.Repeat([]int{value}, len(letters)+1)...)
}

// list are patterns without exceptions, buts exceptions alone.
func list(l ...api.Pattern) api.Patterns { return api.Patterns{List: l} }

func buts(l ...api.Exception) api.Patterns { return api.Patterns{But: l} }

// from are the numbers from a first one to a last one.
func from(first, last int) []int {
	var l []int
	for n := first; n <= last; n++ {
		l = append(l, n)
	}
	return l
}

// forms are those of a pattern's letters, of an exception's, and of both things' words.
var (
	lettersForm   = regexp.MustCompile(`^\.?[a-z]{1,40}\.?$`)
	wordForm      = regexp.MustCompile(`^[a-z]{1,40}$`)
	patternForm   = regexp.MustCompile(`^([1-9]?\.)?([1-9]?[a-z]){1,40}([1-9]?\.)?[1-9]?$`)
	exceptionForm = regexp.MustCompile(`^[a-z]+(-[a-z]+)+$`)
	byteForm      = regexp.MustCompile(`([1-9]?)([a-z.]|\n)`)
)

// mayBe is what the chapter's words ask of Check.
func mayBe(p api.Patterns) bool {
	for _, x := range p.List {
		digits := !slices.ContainsFunc(x.Values, func(v int) bool { return len(strconv.Itoa(v)) != 1 })
		if !lettersForm.MatchString(x.Letters) || !digits || len(x.Values)-1 != len(x.Letters) {
			return false
		}
	}
	for _, x := range p.But {
		rising := slices.Sorted(slices.Values(x.At))
		if !wordForm.MatchString(x.Word) || len(x.At) == 0 || !slices.Equal(slices.Compact(rising), x.At) {
			return false
		}
		if !slices.Contains(from(1, len(x.Word)-1), x.At[0]) || !slices.Contains(from(1, len(x.Word)-1), x.At[len(x.At)-1]) {
			return false
		}
	}
	return len(slices.Concat(make([]int, len(p.List)), make([]int, len(p.But)))) < 301
}

// written is what the chapter's words ask of Write.
func written(p api.Patterns) (string, api.Errno) {
	if !mayBe(p) {
		return "", api.ErrPattern
	}
	var text strings.Builder
	for _, x := range p.List {
		var word string
		for i, b := range strings.Split(x.Letters, "") {
			word += fmt.Sprint(x.Values[i], b)
		}
		word += fmt.Sprintln(x.Values[len(x.Letters)])
		text.WriteString(strings.ReplaceAll(strings.ReplaceAll(word, "0", ""), " ", ""))
	}
	for _, x := range p.But {
		for i, b := range strings.Split(x.Word, "") {
			if slices.Contains(x.At, i) {
				text.WriteString("-")
			}
			text.WriteString(b)
		}
		text.WriteString("\n")
	}
	return text.String(), api.OK
}

// parsed is what the chapter's words ask of Parse.
func parsed(text string) (api.Patterns, api.Errno) {
	var p api.Patterns
	for _, word := range strings.Split(strings.NewReplacer("\t", " ", "\n", " ", "\r", " ").Replace(text), " ") {
		switch {
		case word == "":
		case patternForm.MatchString(word):
			p.List = append(p.List, patternIn(word))
		case exceptionForm.MatchString(word) && len(strings.ReplaceAll(word, "-", "")) <= 40:
			p.But = append(p.But, exceptionIn(word))
		default:
			return api.Patterns{}, api.ErrPattern
		}
	}
	if len(p.List)+len(p.But) > 300 {
		return api.Patterns{}, api.ErrPattern
	}
	return p, api.OK
}

// patternIn is the pattern of a word that is one's.
func patternIn(word string) api.Pattern {
	var x api.Pattern
	for _, found := range byteForm.FindAllStringSubmatch(word+"\n", -1) {
		v, _ := strconv.Atoi(found[1]) // 0 of nothing
		x.Letters += strings.TrimSpace(found[2])
		x.Values = append(x.Values, v)
	}
	return x
}

// exceptionIn is the exception of a word that is one's.
func exceptionIn(word string) api.Exception {
	var x api.Exception
	for _, part := range strings.Split(word, "-") {
		x.Word += part
		x.At = append(x.At, len(x.Word))
	}
	x.At = x.At[:len(x.At)-1]
	return x
}

// same tells whether patterns are one; a list without elements may be nil.
func same(p, q api.Patterns) bool {
	return slices.EqualFunc(p.List, q.List, func(x, y api.Pattern) bool { return x.Letters == y.Letters && slices.Equal(x.Values, y.Values) }) &&
		slices.EqualFunc(p.But, q.But, func(x, y api.Exception) bool { return x.Word == y.Word && slices.Equal(x.At, y.At) })
}

// copied are patterns that share no memory.
func copied(p api.Patterns) api.Patterns {
	var q api.Patterns
	for _, x := range p.List {
		q.List = append(q.List, of(x.Letters, slices.Clone(x.Values)...))
	}
	for _, x := range p.But {
		q.But = append(q.But, but(x.Word, slices.Clone(x.At)...))
	}
	return q
}

// numbered are so many patterns, no two of which are one, and exceptions.
func numbered(patterns, exceptions int) api.Patterns {
	var p api.Patterns
	for i := range patterns {
		p.List = append(p.List, of(string([]byte{'a' + byte(i%26), 'a' + byte(i/26)}), i%10, 0, i/10%10))
	}
	for i := range exceptions {
		p.But = append(p.But, but(string([]byte{'a' + byte(i%26), 'a' + byte(i/26), 'x'}), 1+i%2))
	}
	return p
}

// some are patterns of all kinds, the same ones every time, that may be.
func some(count int) []api.Patterns {
	source := rand.New(rand.NewSource(10))
	var all []api.Patterns
	for range count {
		var p api.Patterns
		for range source.Intn(8) {
			letters := []string{"", "."}[source.Intn(2)] + anyLetters(source, 1) + []string{"", "."}[source.Intn(2)]
			x := flat(letters, 0)
			for i := range x.Values {
				x.Values[i] = max(0, source.Intn(19)-9)
			}
			p.List = append(p.List, x)
		}
		for range source.Intn(8) {
			word := anyLetters(source, 2)
			at := source.Perm(len(word) - 1)
			at = at[:1+source.Intn(len(at))]
			slices.Sort(at)
			for i := range at {
				at[i]++
			}
			p.But = append(p.But, but(word, at...))
		}
		all = append(all, p)
	}
	return all
}

// anyLetters are some letters, at least so many of them.
func anyLetters(source *rand.Rand, least int) string {
	b := make([]byte, least+source.Intn(41-least)>>source.Intn(6))
	for i := range b {
		b[i] = 'a' + byte(source.Intn(26))
	}
	return string(b)
}
