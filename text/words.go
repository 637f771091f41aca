package text

import (
	"bytes"
	"iter"

	"compositor/api"
)

// between stands between words that are written. soft are the bytes of a soft hyphen. longest is how many bytes a word has at most: its codes, and a soft hyphen behind each but the last one.
const (
	between = " "
	soft    = "\xc2\xad"
	longest = api.MaxCodes + len(soft)*(api.MaxCodes-1)
)

// words are those of a text, each with whether it is a word that may be.
func words(text []byte) iter.Seq2[api.Word, bool] {
	return func(yield func(api.Word, bool) bool) {
		for letters := range bytes.FieldsFuncSeq(text, gap) {
			if !yield(read(letters)) {
				return
			}
		}
	}
}

// gap tells whether words are parted by a rune: not by all that is white space elsewhere.
func gap(r rune) bool { return r == '\t' || r == '\n' || r == '\r' || r == ' ' }

// read is the word of which these are the bytes, and whether there is one that may be.
func read(letters []byte) (api.Word, bool) {
	var r reading
	if len(letters) > longest || !all(letters, r.take) || r.half {
		return api.Word{}, false
	}
	return r.word, mayBe(r.word)
}

// reading is a word, as far as it is read; half, if what is read ends within a soft hyphen.
type reading struct {
	word api.Word
	half bool
}

// take reads a byte, and tells whether it may stand there, but for which codes a word may have, and where it may be parted.
func (r *reading) take(b byte) bool {
	switch {
	case r.half:
		r.half = false
		r.word.Soft = append(r.word.Soft, len(r.word.Codes))
		return b == soft[1]
	case b == soft[0]:
		r.half = true
	default:
		r.word.Codes = append(r.word.Codes, int(b))
	}
	return true
}

// all hands bytes to take, in their order, up to the first one that it does not take, and tells whether there is none.
func all(letters []byte, take func(b byte) bool) bool {
	for _, b := range letters {
		if !take(b) {
			return false
		}
	}
	return true
}

// spell are the bytes of a word that may be.
func spell(w api.Word) []byte {
	var letters []byte
	parts := w.Soft
	for at, code := range w.Codes {
		if len(parts) > 0 && parts[0] == at {
			letters = append(letters, soft...)
			parts = parts[1:]
		}
		letters = append(letters, byte(code))
	}
	return letters
}
