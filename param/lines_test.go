package param_test

import (
	"fmt"
	"math/big"
	"math/rand"
	"reflect"
	"regexp"
	"slices"
	"strings"

	"compositor/api"
)

// What the chapter's words ask, told another way than the package tells it; and layouts to ask it of.

// forms are a layout's lines, as the chapter tells them: each a name, and the fields of which its numbers are.
var forms = []string{
	"width Width", "space Space Stretch Shrink", "shape Indent Width", "hang Hang After", "parts Left Right", "bad First Second",
	"extra Extra", "penalties LinePen HyphPen DashPen", "demerits Jump Double Final River Ladder", "loose Loose",
}

// limit is a field's name, with the least and the greatest number that it may be.
type limit struct {
	name        string
	least, most int
}

// limits are those of all fields but Shape's and Hang, whose ones hang on Width.
var limits = []limit{
	{"Width", 1, 67108864}, {"Space", 0, 4194304}, {"Stretch", 0, 4194304}, {"Shrink", 0, 4194304}, {"After", -100, 100},
	{"Left", 0, 40}, {"Right", 0, 40}, {"First", -1, 10000}, {"Second", 0, 10000}, {"Extra", 0, 67108864},
	{"LinePen", 0, 1000}, {"HyphPen", -1000, 1000}, {"DashPen", -1000, 1000},
	{"Jump", 0, 10000}, {"Double", 0, 10000}, {"Final", 0, 10000}, {"River", 0, 10000}, {"Ladder", 0, 10000}, {"Loose", -5, 5},
}

// field is a layout's, or a line's, by its name.
func field(l any, name string) *int {
	return reflect.ValueOf(l).Elem().FieldByName(name).Addr().Interface().(*int)
}

// mayBe is what the chapter's words ask of Check.
func mayBe(l api.Layout) bool {
	for _, x := range limits {
		if n := *field(&l, x.name); n < x.least || x.most < n {
			return false
		}
	}
	wrong := slices.ContainsFunc(l.Shape, func(s api.Line) bool {
		return s.Indent < 0 || s.Indent > 67108864 || s.Width < 1 || s.Width > 67108864
	})
	hang := l.Hang
	if hang < 0 {
		hang = -hang
	}
	return !wrong && len(l.Shape) < 41 && hang >= 0 && hang < l.Width
}

// line is that of a form and of what holds its fields.
func line(form string, l any) string {
	words := strings.Fields(form)
	for i, name := range words[1:] {
		words[i+1] = fmt.Sprint(*field(l, name))
	}
	return strings.Join(words, " ") + "\n"
}

// lines are all of a layout's, in the chapter's order.
func lines(l api.Layout) []string {
	var all []string
	for _, form := range forms {
		if form != "shape Indent Width" {
			all = append(all, line(form, &l))
			continue
		}
		for i := range l.Shape {
			all = append(all, line(form, &l.Shape[i]))
		}
	}
	return all
}

// written is what the chapter's words ask of Write.
func written(l api.Layout) (string, api.Errno) {
	if !mayBe(l) {
		return "", api.ErrParam
	}
	return strings.Join(lines(l), ""), api.OK
}

// lineForm is that of a line's bytes, as far as its name does not matter.
var lineForm = regexp.MustCompile(`^[a-z]+( (0|-?[1-9][0-9]*))+\n$`)

// parsed is what the chapter's words ask of Parse.
func parsed(text string) (api.Layout, api.Errno) {
	var l api.Layout
	given := map[string]bool{}
	for _, bytes := range strings.SplitAfter(text, "\n") {
		if bytes == "" {
			continue // behind the last byte 10, or of no text
		}
		words := strings.Fields(bytes)
		i := slices.IndexFunc(forms, func(form string) bool { return len(words) > 0 && strings.HasPrefix(form, words[0]+" ") })
		if !lineForm.MatchString(bytes) || i < 0 || given[words[0]] || len(words) != len(strings.Fields(forms[i])) {
			return api.Layout{}, api.ErrParam
		}
		var into any = &l
		if words[0] == "shape" {
			l.Shape = append(l.Shape, api.Line{})
			into = &l.Shape[len(l.Shape)-1]
		} else {
			given[words[0]] = true
		}
		for k, name := range strings.Fields(forms[i])[1:] {
			n, _ := new(big.Int).SetString(words[k+1], 10)
			if !n.IsInt64() {
				return api.Layout{}, api.ErrParam
			}
			*field(into, name) = int(n.Int64())
		}
	}
	if !mayBe(l) {
		return api.Layout{}, api.ErrParam
	}
	return l, api.OK
}

// same tells whether layouts are the same; a list without elements may be nil.
func same(l, m api.Layout) bool {
	shapes := slices.Equal(l.Shape, m.Shape)
	l.Shape, m.Shape = nil, nil
	return shapes && reflect.DeepEqual(l, m)
}

// shape are so many lines, no two of which are one.
func shape(count int) []api.Line {
	var l []api.Line
	for i := range count {
		l = append(l, api.Line{Indent: 1000 - i, Width: 100 + 7*i})
	}
	return l
}

// plain is a layout no two of whose numbers are one, with so many lines of Shape.
func plain(count int) api.Layout {
	return api.Layout{
		Width: 5000, Space: 300, Stretch: 170, Shrink: 111, Shape: shape(count), Hang: -40, After: 3, Left: 2, Right: 4, First: 101, Second: 207,
		Extra: 99, LinePen: 10, HyphPen: 50, DashPen: -51, Jump: 1001, Double: 1002, Final: 1003, River: 1004, Ladder: 1005, Loose: 1,
	}
}

// edges are layouts, each number of which is the least, or the greatest, that it may be.
func edges() []api.Layout {
	least, most := api.Layout{}, api.Layout{Hang: 67108863}
	for _, x := range limits {
		*field(&least, x.name), *field(&most, x.name) = x.least, x.most
	}
	low := most
	low.Hang = -67108863
	for range 40 {
		least.Shape = append(least.Shape, api.Line{Width: 1})
		most.Shape = append(most.Shape, api.Line{Indent: 67108864, Width: 67108864})
	}
	return []api.Layout{{Width: 1}, {Width: 67108864}, least, most, low}
}

// some are layouts of all kinds, the same ones every time, that may be.
func some(count int) []api.Layout {
	source := rand.New(rand.NewSource(14))
	var all []api.Layout
	for range count {
		var l api.Layout
		zeros := source.Intn(4)
		for _, x := range limits {
			if n := anyOf(source, x.least, x.most); x.name == "Width" || source.Intn(4) >= zeros {
				*field(&l, x.name) = n
			}
		}
		if source.Intn(4) >= zeros {
			l.Hang = anyOf(source, 1-l.Width, l.Width-1)
		}
		for range source.Intn(41) >> source.Intn(6) {
			l.Shape = append(l.Shape, api.Line{Indent: anyOf(source, 0, 67108864), Width: anyOf(source, 1, 67108864)})
		}
		all = append(all, l)
	}
	return all
}

// anyOf is a number from a least one to a greatest one, often small, often one of these two.
func anyOf(source *rand.Rand, least, most int) int {
	switch source.Intn(6) {
	case 0:
		return least
	case 1:
		return most
	case 2:
		return min(least+source.Intn(12), most)
	}
	return least + source.Intn(most-least+1)
}
