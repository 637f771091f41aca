package param

import (
	"iter"
	"strconv"
	"strings"

	"compositor/api"
)

// between stands ahead of a line's numbers, end behind the last one. shaped is the name of the one kind of lines of which there may be several.
const (
	between = " "
	end     = "\n"
	shaped  = "shape"
)

// names are those of a layout's lines, in the order in which they are written.
var names = [...]string{"width", "space", shaped, "hang", "parts", "bad", "extra", "penalties", "demerits", "loose"}

// number is one of a layout: where it stands, and from which one to which one it may be.
type number struct {
	at          *int
	least, most int
}

// kind is what holds of a layout's lines of one name: how many of them there are, and which numbers one of them has.
type kind struct {
	count   func(l *api.Layout) int
	numbers func(l *api.Layout, line int) []number
}

// kinds are those of lines, by their names.
func kinds() map[string]kind {
	return map[string]kind{
		"width": once(func(l *api.Layout) []number {
			return []number{{&l.Width, 1, api.MaxWidth}}
		}),
		"space": once(func(l *api.Layout) []number {
			return []number{{&l.Space, 0, api.MaxSpace}, {&l.Stretch, 0, api.MaxSpace}, {&l.Shrink, 0, api.MaxSpace}}
		}),
		shaped: {
			func(l *api.Layout) int { return len(l.Shape) },
			func(l *api.Layout, line int) []number {
				s := &l.Shape[line]
				return []number{{&s.Indent, 0, api.MaxWidth}, {&s.Width, 1, api.MaxWidth}}
			},
		},
		"hang": once(func(l *api.Layout) []number {
			return []number{{&l.Hang, 1 - l.Width, l.Width - 1}, {&l.After, -api.MaxWords, api.MaxWords}}
		}),
		"parts": once(func(l *api.Layout) []number {
			return []number{{&l.Left, 0, api.MaxWord}, {&l.Right, 0, api.MaxWord}}
		}),
		"bad": once(func(l *api.Layout) []number {
			return []number{{&l.First, -1, api.MaxBad}, {&l.Second, 0, api.MaxBad}}
		}),
		"extra": once(func(l *api.Layout) []number {
			return []number{{&l.Extra, 0, api.MaxWidth}}
		}),
		"penalties": once(func(l *api.Layout) []number {
			return []number{{&l.LinePen, 0, api.MaxPen}, {&l.HyphPen, -api.MaxPen, api.MaxPen}, {&l.DashPen, -api.MaxPen, api.MaxPen}}
		}),
		"demerits": once(func(l *api.Layout) []number {
			return []number{{&l.Jump, 0, api.MaxDems}, {&l.Double, 0, api.MaxDems}, {&l.Final, 0, api.MaxDems}, {&l.River, 0, api.MaxDems}, {&l.Ladder, 0, api.MaxDems}}
		}),
		"loose": once(func(l *api.Layout) []number {
			return []number{{&l.Loose, -api.MaxLoose, api.MaxLoose}}
		}),
	}
}

// once is the kind of a line of which there is one, of these numbers.
func once(numbers func(l *api.Layout) []number) kind {
	return kind{
		func(*api.Layout) int { return 1 },
		func(l *api.Layout, _ int) []number { return numbers(l) },
	}
}

// lines are a layout's, each a name and its numbers, in the order in which they are written.
func lines(l *api.Layout) iter.Seq2[string, []number] {
	return func(yield func(string, []number) bool) {
		known := kinds()
		for _, name := range names {
			k := known[name]
			for line := range k.count(l) {
				if !yield(name, k.numbers(l, line)) {
					return
				}
			}
		}
	}
}

// take takes a text's lines, up to the first one that is none, or one too many. It answers the layout of which they are, whether that may be or not, and what is left of the text.
func take(text string) (api.Layout, string) {
	l := api.Layout{Shape: make([]api.Line, api.MaxShape)}
	known, taken := kinds(), map[string]int{}
taking:
	for text != "" {
		line, behind, whole := strings.Cut(text, end)
		name, _, _ := strings.Cut(line, between)
		k, is := known[name]
		if !whole || !is || taken[name] == k.count(&l) {
			break taking
		}
		numbers := k.numbers(&l, taken[name])
		if strings.Count(line, between) != len(numbers) {
			break taking
		}
		for i, digits := range strings.Split(line, between)[1:] {
			n, is := decimal(digits)
			if !is {
				break taking
			}
			*numbers[i].at = n
		}
		taken[name]++
		text = behind
	}
	l.Shape = append([]api.Line(nil), l.Shape[:taken[shaped]]...)
	return l, text
}

// decimal is the number that is written so, and whether there is one.
func decimal(digits string) (int, bool) {
	n, err := strconv.Atoi(digits)
	return n, err == nil && strconv.Itoa(n) == digits
}
