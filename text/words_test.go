package text_test

import (
	"math/rand"
	"regexp"
	"slices"
	"strings"

	"compositor/api"
)

// What the chapter's words ask, told another way than the package tells it; and words to ask it of.

// shy is UTF-8's soft hyphen.
const shy = "\u00ad"

// word is one of a text without soft hyphens, parted by hand where it is told.
func word(letters string, parts ...int) api.Word {
	var w api.Word
	for _, b := range []byte(letters) {
		w.Codes = append(w.Codes, int(b))
	}
	w.Soft = parts
	return w
}

// list are words.
func list(l ...api.Word) []api.Word { return l }

// long is a word of so many codes, no two neighbours of which are one.
func long(count int, parts ...int) api.Word {
	letters := make([]byte, count)
	for i := range letters {
		letters[i] = '!' + byte(i*7%94)
	}
	return word(string(letters), parts...)
}

// of are words of so many codes each.
func of(counts ...int) []api.Word {
	var l []api.Word
	for i, n := range counts {
		w := long(n)
		slices.Reverse(w.Codes)
		if i%3 == 1 && n > 1 {
			w.Soft = []int{1 + i%(n-1)}
		}
		l = append(l, w)
	}
	return l
}

// times is a number so many times.
func times(n, count int) []int { return slices.Repeat([]int{n}, count) }

// from are the numbers from a first one to a last one.
func from(first, last int) []int {
	var l []int
	for n := first; n <= last; n++ {
		l = append(l, n)
	}
	return l
}

// wordForm is that of a word's bytes, and gapForm that of what stands between two words.
var (
	wordForm = regexp.MustCompile(`^[!-~]+(\x{AD}[!-~]+)*$`)
	gapForm  = regexp.MustCompile(`[\t\n\r ]+`)
)

// among tells whether all of some numbers are from a first one to a last one.
func among(l []int, first, last int) bool {
	return len(l) == 0 || slices.Min(l) >= first && slices.Max(l) <= last
}

// mayBe is what the chapter's words ask of Check.
func mayBe(l []api.Word) bool {
	var all []int
	for _, w := range l {
		rising := slices.Compact(slices.Sorted(slices.Values(w.Soft)))
		if len(w.Codes) == 0 || len(w.Codes) > 60 || !among(w.Codes, 33, 126) || !among(w.Soft, 1, len(w.Codes)-1) || !slices.Equal(rising, w.Soft) {
			return false
		}
		all = append(all, w.Codes...)
	}
	return len(l) != 0 && len(l) < 101 && len(all) < 401
}

// written is what the chapter's words ask of Write.
func written(l []api.Word) (string, api.Errno) {
	if !mayBe(l) {
		return "", api.ErrText
	}
	var text strings.Builder
	for i, w := range l {
		if i > 0 {
			text.WriteByte(32)
		}
		for at, code := range w.Codes {
			text.WriteByte(byte(code))
			if slices.Contains(w.Soft, at+1) {
				text.WriteByte(194)
				text.WriteByte(173)
			}
		}
	}
	return text.String(), api.OK
}

// parsed is what the chapter's words ask of Read.
func parsed(text string) ([]api.Word, api.Errno) {
	var l []api.Word
	for _, letters := range strings.Split(plain(text), " ") {
		if !wordForm.MatchString(letters) || len(l) > 100 {
			return nil, api.ErrText
		}
		w := word("")
		for _, part := range strings.Split(letters, shy) {
			w.Soft = append(w.Soft, len(w.Codes))
			w.Codes = append(w.Codes, word(part).Codes...)
		}
		w.Soft = w.Soft[1:]
		l = append(l, w)
	}
	if !mayBe(l) {
		return nil, api.ErrText
	}
	return l, api.OK
}

// plain is a text with one byte 32 between any two words, and none ahead and behind.
func plain(text string) string {
	return strings.Trim(gapForm.ReplaceAllString(text, " "), " ")
}

// same tells whether words are the same; a list without elements may be nil.
func same(l, m []api.Word) bool {
	return slices.EqualFunc(l, m, func(v, w api.Word) bool { return slices.Equal(v.Codes, w.Codes) && slices.Equal(v.Soft, w.Soft) })
}

// copied are words that share no memory.
func copied(l []api.Word) []api.Word {
	var m []api.Word
	for _, w := range l {
		m = append(m, api.Word{Codes: slices.Clone(w.Codes), Soft: slices.Clone(w.Soft)})
	}
	return m
}

// some are words of all kinds, the same ones every time, that may be.
func some(count int) [][]api.Word {
	source := rand.New(rand.NewSource(13))
	var all [][]api.Word
	for range count {
		var l []api.Word
		left := api.MaxText
		for range 1 + source.Intn(100)>>source.Intn(5) {
			w := anyWord(source, min(left, 1+source.Intn(60)>>source.Intn(6)))
			if left -= len(w.Codes); left < 0 || len(w.Codes) == 0 {
				break
			}
			l = append(l, w)
		}
		all = append(all, l)
	}
	return all
}

// anyWord is a word of so many codes, parted anywhere, or nowhere.
func anyWord(source *rand.Rand, count int) api.Word {
	var w api.Word
	often := source.Intn(4)
	for at := range count {
		w.Codes = append(w.Codes, 33+source.Intn(94))
		if at > 0 && source.Intn(4) < often {
			w.Soft = append(w.Soft, at)
		}
	}
	return w
}
