package liang

import "compositor/api"

// dot stands in a pattern for a word's end; hyphen in an exception where it may be parted; end behind each word that is written. maxValue is the greatest Value. longest is how many bytes a word has at most: a pattern's letters, two dots, and a number ahead of each of these, and behind.
const (
	dot      = '.'
	hyphen   = '-'
	end      = '\n'
	maxValue = 9
	longest  = 2*(api.MaxWord+2) + 1
)

// patternWord is that of a pattern that may be.
func patternWord(x api.Pattern) string {
	var word []byte
	for i, v := range x.Values {
		if v != 0 {
			word = append(word, '0'+byte(v))
		}
		if i < len(x.Letters) {
			word = append(word, x.Letters[i])
		}
	}
	return string(word)
}

// exceptionWord is that of an exception that may be.
func exceptionWord(x api.Exception) string {
	var word []byte
	behind := 0
	for _, at := range x.At {
		word = append(append(word, x.Word[behind:at]...), hyphen)
		behind = at
	}
	return string(append(word, x.Word[behind:]...))
}

// read are the pattern, and the exception, that a word can be that of, if at all: what has no place in them is left out, and so missing in their own words.
func read(word string) (api.Pattern, api.Exception) {
	var letters []byte
	var at []int
	values := []int{0}
	count := 0
	for _, r := range word {
		switch {
		case '1' <= r && r <= '0'+maxValue:
			values[len(values)-1] = int(r - '0')
		case r == hyphen:
			at = append(at, count)
		case letter(r):
			count++
			fallthrough
		case r == dot:
			letters = append(letters, byte(r))
			values = append(values, 0)
		}
	}
	return api.Pattern{Letters: string(letters), Values: values}, api.Exception{Word: string(letters), At: at}
}
