package piece_test

import (
	"math"
	"math/rand"
	"slices"
	"strconv"
	"strings"

	"compositor/api"
)

// What the chapter's words ask, told another way than the package tells it; and words and lines to ask it of.

// marks are the kinds' letters, from BStart on.
const marks = "^_hs-$"

// at is a break.
func at(kind, word, place int) api.Break {
	return api.Break{Kind: kind, Word: word, At: place}
}

// standing are all breaks that may be ones of words, in order.
func standing(l []api.Word) []api.Break {
	if !wordsMayBe(l) {
		return nil
	}
	all := []api.Break{at(0, 0, 0)}
	for i, w := range l {
		for place := 1; place < len(w.Codes); place++ {
			all = append(all, at(2, i, place), at(3, i, place), at(4, i, place))
		}
		all = append(all, at(1, i, len(w.Codes)))
	}
	all[len(all)-1].Kind = 5
	return all
}

// ahead tells whether a break of words stands ahead of another one.
func ahead(a, b api.Break) bool {
	if a.Kind == 0 {
		return b.Kind != 0
	}
	return b.Kind != 0 && behind(b.Word, b.At-1, a)
}

// behind tells whether a code stands behind a break.
func behind(word, place int, b api.Break) bool {
	return word > b.Word || word == b.Word && place >= b.At
}

// pieces are what the chapter's words ask of Pieces: each code is asked whether it is on the line.
func pieces(l []api.Word, a, b api.Break) ([][]int, api.Errno) {
	all := standing(l)
	switch {
	case all == nil:
		return nil, 130
	case !slices.Contains(all, a) || !slices.Contains(all, b) || a.Kind == 5 || !ahead(a, b):
		return nil, 1
	}
	var line [][]int
	for i, w := range l {
		var piece []int
		for place, code := range w.Codes {
			if behind(i, place, a) && !behind(i, place, b) {
				piece = append(piece, code)
			}
		}
		if len(piece) > 0 {
			line = append(line, piece)
		}
	}
	if b.Kind == 2 || b.Kind == 3 {
		line[len(line)-1] = append(line[len(line)-1], 45)
	}
	return line, 0
}

// whole is what they ask of Whole: of all lines but the last one, and of that behind these.
func whole(lines [][][]int, ends []api.Break) [][]int {
	last := min(len(lines), len(ends)) - 1
	if last < 0 {
		return nil
	}
	l, line := whole(lines[:last], ends), slices.Clone(lines[last])
	if n := len(line) - 1; n >= 0 && strings.Contains("hs", mark(ends[last].Kind)) && len(line[n]) > 0 {
		line[n] = line[n][:len(line[n])-1]
	}
	if len(line) > 0 && len(l) > 0 && strings.Contains("hs-", mark(ends[last-1].Kind)) {
		line[0] = slices.Concat(l[len(l)-1], line[0])
		l = l[:len(l)-1]
	}
	return slices.Concat(l, line)
}

// mark is a kind's letter, or a ? of what is no kind.
func mark(kind int) string {
	if kind < 0 || kind >= len(marks) {
		return "?"
	}
	return marks[kind : kind+1]
}

// written is a break as a text: its kind's letter, its word, and its place in that.
func written(b api.Break) string {
	return mark(b.Kind) + strconv.Itoa(b.Word) + "." + strconv.Itoa(b.At)
}

// read is the break of such a text.
func read(text string) api.Break {
	word, place, _ := strings.Cut(text[1:], ".")
	i, _ := strconv.Atoi(word)
	k, _ := strconv.Atoi(place)
	return at(strings.Index(marks, text[:1]), i, k)
}

// list are lists of codes of a text, in which blanks stand between them; a . is one without codes.
func list(text string) [][]int {
	var l [][]int
	for _, letters := range strings.Fields(text) {
		var codes []int
		for _, b := range []byte(strings.Trim(letters, ".")) {
			codes = append(codes, int(b))
		}
		l = append(l, codes)
	}
	return l
}

// told are lists of codes as such a text.
func told(l [][]int) string {
	var all []string
	for _, codes := range l {
		letters := ""
		for _, code := range codes {
			letters += string(rune(code))
		}
		if letters == "" {
			letters = "."
		}
		all = append(all, letters)
	}
	return strings.Join(all, " ")
}

// lines are those of texts, each of pieces, a |, and the letter of the kind that it ends at; and their ends.
func lines(texts ...string) ([][][]int, []api.Break) {
	var all [][][]int
	var ends []api.Break
	for i, text := range texts {
		line, kind, _ := strings.Cut(text, "|")
		all = append(all, list(line))
		ends = append(ends, at(strings.Index(marks, kind), 7*i, -i))
	}
	return all, ends
}

// words are those of a text, in which blanks stand between them; a | parts a word by hand.
func words(text string) []api.Word {
	var l []api.Word
	for _, letters := range strings.Fields(text) {
		var w api.Word
		for _, b := range []byte(letters) {
			if b == '|' {
				w.Soft = append(w.Soft, len(w.Codes))
			} else {
				w.Codes = append(w.Codes, int(b))
			}
		}
		l = append(l, w)
	}
	return l
}

// codes are those of words.
func codes(l []api.Word) [][]int {
	var all [][]int
	for _, w := range l {
		all = append(all, w.Codes)
	}
	return all
}

// same tells whether lists of codes are; one without elements may be nil.
func same(l, m [][]int) bool { return slices.EqualFunc(l, m, slices.Equal[[]int]) }

// times is a text so many times.
func times(text string, count int) string { return strings.Repeat(text, count) }

// among tells whether all of some numbers are from a first one to a last one.
func among(l []int, first, last int) bool {
	return len(l) == 0 || slices.Min(l) >= first && slices.Max(l) <= last
}

// wordsMayBe tells whether words may be.
func wordsMayBe(l []api.Word) bool {
	count := 0
	for _, w := range l {
		rising := slices.Compact(slices.Sorted(slices.Values(w.Soft)))
		if len(w.Codes) == 0 || len(w.Codes) > 60 || !among(w.Codes, 33, 126) || !among(w.Soft, 1, len(w.Codes)-1) || !slices.Equal(rising, w.Soft) {
			return false
		}
		count += len(w.Codes)
	}
	return len(l) != 0 && len(l) < 101 && count < 401
}

// wrongWords are words that may not be, in each way, alone and among others.
func wrongWords() [][]api.Word {
	all := [][]api.Word{nil, {}, words(times("a ", 101)), words(times("ab|c- ", 101)), words(times(times("-", 60)+" ", 6) + times("a", 41)), words(times(times("a", 50)+" ", 8) + "a")}
	var wrong []api.Word
	for _, code := range []int{32, 127, 31, 0, -1, -45, 128, 45 + 256, 45 + 1<<32, -1<<63 + 45, math.MinInt, math.MaxInt} {
		wrong = append(wrong, api.Word{Codes: []int{code}}, api.Word{Codes: []int{code, 'a', 'b'}, Soft: []int{1, 2}}, api.Word{Codes: []int{'a', '-', code}})
	}
	for _, soft := range [][]int{{0}, {-1}, {3}, {4}, {1, 1}, {2, 1}, {0, 1}, {1, 2, 3}, {2, 3}, {1, 2, 1}, {math.MinInt}, {math.MaxInt}, {1<<32 + 1}} {
		wrong = append(wrong, api.Word{Codes: []int{'a', '-', 'b'}, Soft: soft})
	}
	wrong = append(wrong, api.Word{}, api.Word{Soft: []int{1}}, api.Word{Codes: []int{'a'}, Soft: []int{1}}, words(times("a", 61))[0], words(times("a|", 60) + "a")[0])
	for _, w := range wrong {
		all = append(all, []api.Word{w}, append(words("ab-c a"), w), append([]api.Word{w}, words("ab-c a")...), slices.Concat(words("a"), []api.Word{w}, words("b")))
	}
	return all
}

// around are breaks of words, and others: of each kind, and what is none, of each word, and what is none, at all places of words and near them.
func around(l []api.Word) []api.Break {
	longest := 2
	for _, w := range l {
		longest = max(longest, len(w.Codes))
	}
	count, far := len(l), []int{math.MinInt, -1 << 32, 1 << 32, 1<<32 + 1, math.MaxInt}
	var all []api.Break
	for _, kind := range append(from(-1, 6), append(far, 1<<32+2, 1<<32+5)...) {
		for _, word := range append(from(-1, count+1), far...) {
			for _, place := range append(from(-1, longest+2), far...) {
				all = append(all, at(kind, word, place))
			}
		}
	}
	return all
}

// from are the numbers from a first one to a last one.
func from(first, last int) []int {
	var l []int
	for n := first; n <= last; n++ {
		l = append(l, n)
	}
	return l
}

// some are words of all kinds, the same ones every time, that may be.
func some(count int) [][]api.Word {
	source := rand.New(rand.NewSource(17))
	all := [][]api.Word{words("a"), words("-"), words("ab"), words(times("a ", 100)), words(times("abc- ", 100)), words(times("a-", 30) + " " + times("-|", 59) + "-" + times(" "+times("b", 56), 5)), words(times("a", 60))}
	for len(all) < count {
		var l []api.Word
		left, longest, soft := 400, 1+source.Intn(60)>>source.Intn(6), source.Intn(3)
		for range 1 + source.Intn(100)>>source.Intn(6) {
			var w api.Word
			for place := range 1 + source.Intn(longest) {
				if place > 0 && source.Intn(4) < soft {
					w.Soft = append(w.Soft, place)
				}
				w.Codes = append(w.Codes, int("-!~abcdefgh'(A"[source.Intn(14)]))
			}
			if left -= len(w.Codes); left < 0 {
				break
			}
			l = append(l, w)
		}
		all = append(all, l)
	}
	return all
}

// set is what Whole is asked.
type set struct {
	lines [][][]int
	ends  []api.Break
}

// sets are lines and ends of all kinds, the same ones every time: of any codes, with as many ends as lines, and more, and fewer.
func sets(count int) []set {
	source := rand.New(rand.NewSource(1717))
	var all []set
	for range count {
		var s set
		most, none := 1+source.Intn(6), source.Intn(3)
		for range source.Intn(12) {
			var line [][]int
			for range source.Intn(most) {
				var piece []int
				for range source.Intn(5 - none) {
					piece = append(piece, []int{45, 97, 98, 0, -1, 1 << 40, math.MinInt, math.MaxInt}[source.Intn(8)])
				}
				line = append(line, piece)
			}
			s.lines = append(s.lines, line)
		}
		for range max(0, len(s.lines)+max(-3, source.Intn(8)-5)) {
			s.ends = append(s.ends, at(source.Intn(8)-1, source.Intn(3), source.Intn(5)))
		}
		all = append(all, s)
	}
	return all
}
