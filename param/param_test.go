package param_test

import (
	"bytes"
	"math"
	"math/rand"
	"slices"
	"strings"
	"sync"
	"testing"

	"compositor/api"
	"compositor/param"
)

// hold holds Check, Write, and Parse of what is written, against the chapter's words, and tells whether a layout may be.
func hold(t *testing.T, l api.Layout) bool {
	t.Helper()
	may := mayBe(l)
	if param.Check(l) != may {
		t.Errorf("Check(%v): %t", l, !may)
	}
	want, x := written(l)
	b, e := param.Write(l)
	if string(b) != want || e != x {
		t.Errorf("Write(%v): %q, %v, not %q, %v", l, b, e, want, x)
	}
	holdText(t, strings.Join(lines(l), ""), may)
	return may
}

// holdText holds Parse of a text, and whether it has a layout, against the chapter's words.
func holdText(t *testing.T, text string, has bool) {
	t.Helper()
	want, x := parsed(text)
	if (x == api.OK) != has {
		t.Errorf("the reading of %q: %v", text, x)
	}
	l, e := param.Parse([]byte(text))
	if !same(l, want) || e != x {
		t.Errorf("Parse(%q): %v, %v, not %v, %v", text, l, e, want, x)
	}
}

// P14.1, P14.2: the chapter's example.
func TestExample(t *testing.T) {
	l, e := param.Parse([]byte("width 100\n"))
	if !same(l, api.Layout{Width: 100}) || e != api.OK || !hold(t, l) {
		t.Errorf("%v, %v", l, e)
	}
}

// P14.1, P14.2, P14.3: layouts and their texts, written out.
func TestWrittenOut(t *testing.T) {
	for text, l := range map[string]api.Layout{
		"width 100\nspace 0 0 0\nhang 0 0\nparts 0 0\nbad 0 0\nextra 0\npenalties 0 0 0\ndemerits 0 0 0 0 0\nloose 0\n":                                                                 {Width: 100},
		"width 5000\nspace 300 170 111\nshape 1000 100\nshape 999 107\nhang -40 3\nparts 2 4\nbad 101 207\nextra 99\npenalties 10 50 -51\ndemerits 1001 1002 1003 1004 1005\nloose 1\n": plain(2),
		"width 67108864\nspace 4194304 0 1\nshape 0 1\nhang 67108863 -100\nparts 40 0\nbad -1 10000\nextra 67108864\npenalties 1000 -1000 1000\ndemerits 0 10000 0 0 1\nloose -5\n": {
			Width: api.MaxWidth, Space: api.MaxSpace, Shrink: 1, Shape: []api.Line{{Width: 1}}, Hang: api.MaxWidth - 1, After: -api.MaxWords, Left: api.MaxWord, First: -1, Second: api.MaxBad,
			Extra: api.MaxWidth, LinePen: api.MaxPen, HyphPen: -api.MaxPen, DashPen: api.MaxPen, Double: api.MaxDems, Ladder: 1, Loose: -api.MaxLoose,
		},
	} {
		if b, e := param.Write(l); string(b) != text || e != api.OK || !param.Check(l) || !hold(t, l) {
			t.Errorf("%v: %q, %v", l, b, e)
		}
		if m, e := param.Parse([]byte(text)); !same(m, l) || e != api.OK {
			t.Errorf("%q: %v, %v", text, m, e)
		}
	}
}

// P14.1, P14.2: each number at its least and its greatest, and beyond them.
func TestNumbers(t *testing.T) {
	if len(limits) != 19 {
		t.Errorf("%d fields", len(limits))
	}
	for _, x := range limits {
		for n, may := range map[int]bool{
			x.least: true, x.most: true, min(x.least+1, x.most): true, max(x.most-1, x.least): true, (x.least + x.most) / 2: true,
			x.least - 1: false, x.most + 1: false, x.least - 2: false, x.most + 2: false, math.MinInt: false, math.MinInt + 1: false, math.MaxInt: false, math.MaxInt - 1: false,
			1<<32 + x.least: false, 1<<32 + x.most: false, -1<<32 + x.least: false, -1<<32 + x.most: false, 1 << 62: false, -1 << 62: false, -x.most - 2: false,
		} {
			for _, l := range []api.Layout{{Width: 7}, plain(0), plain(3)} {
				if x.name == "Width" {
					l.Hang = 0
				}
				*field(&l, x.name) = n
				if hold(t, l) != may || param.Check(l) != may {
					t.Errorf("%s %d: %t", x.name, n, !may)
				}
			}
		}
	}
	for _, l := range edges() {
		if !hold(t, l) {
			t.Errorf("%v may not be", l)
		}
	}
}

// P14.1, P14.2: Hang, beside all kinds of Width.
func TestHang(t *testing.T) {
	for _, width := range []int{1, 2, 3, 100, 1 << 20, 67108863, 67108864} {
		for hang, may := range map[int]bool{
			0: true, width - 1: true, 1 - width: true, width: false, -width: false, width + 1: false, -width - 1: false, 2 * width: false, -2 * width: false, math.MinInt: false, math.MinInt + width: false, math.MaxInt: false, math.MaxInt - width: false,
		} {
			l := plain(2)
			for _, m := range []api.Layout{{Width: width, Hang: hang}, {Width: width, Hang: hang, Shape: l.Shape, After: -3}} {
				if hold(t, m) != may || param.Check(m) != may {
					t.Errorf("%d, %d: %t", width, hang, !may)
				}
			}
		}
	}
	for _, width := range []int{0, -1, -100, 67108865, 1 << 40, math.MinInt, math.MinInt + 1, math.MaxInt} {
		for _, hang := range []int{0, 1, -1, 99, -99, width, -width, width - 1, 1 - width, width + 1, math.MinInt, math.MaxInt} {
			if m := (api.Layout{Width: width, Hang: hang}); hold(t, m) || param.Check(m) {
				t.Errorf("%d, %d", width, hang)
			}
		}
	}
}

// P14.1, P14.2: how many lines Shape has.
func TestShapeLines(t *testing.T) {
	for count := range 200 {
		may := count < 41
		if l := plain(count); hold(t, l) != may || param.Check(l) != may {
			t.Errorf("%d lines of Shape: %t", count, !may)
		}
		holdText(t, "width 1\n"+strings.Repeat("shape 0 1\n", count), may)
		holdText(t, strings.Repeat("shape 67108864 67108864\n", count)+"loose 1\nwidth 1\n", may)
		if l := (api.Layout{Width: 1, Shape: make([]api.Line, count)}); hold(t, l) != (count == 0) {
			t.Errorf("%d lines of no width: %t", count, count > 0)
		}
	}
}

// P14.1, P14.2: the numbers of Shape's lines, at all places.
func TestShapeNumbers(t *testing.T) {
	for n, may := range map[int][2]bool{ // as an Indent, as a Width
		0: {true, false}, 1: {true, true}, 2: {true, true}, 67108863: {true, true}, 67108864: {true, true}, -1: {}, 67108865: {}, -67108864: {}, math.MinInt: {}, math.MaxInt: {}, 1 << 32: {}, 1<<32 + 1: {}, -1 << 62: {},
	} {
		for _, count := range []int{1, 2, 3, 7, 39, 40} {
			for _, at := range []int{0, 1, count / 2, count - 1} {
				l, m := plain(count), plain(count)
				l.Shape[at%count].Indent = n
				m.Shape[at%count].Width = n
				if hold(t, l) != may[0] || hold(t, m) != may[1] {
					t.Errorf("%d at %d of %d", n, at, count)
				}
			}
		}
	}
}

// P14.2: texts that are none of a layout's, or of one with little in it.
func TestLittle(t *testing.T) {
	for _, b := range [][]byte{nil, {}, make([]byte, 0, 9), {10}, {10, 10}, {32}, {0}, {13, 10}} {
		if l, e := param.Parse(b); !same(l, api.Layout{}) || e != api.ErrParam {
			t.Errorf("%q: %v, %v", b, l, e)
		}
		holdText(t, string(b), false)
	}
	for _, l := range []api.Layout{{}, {Shape: shape(1)}, {Space: 3, Loose: 1}} {
		text := strings.Join(lines(l), "")
		holdText(t, text, false)
		holdText(t, strings.TrimPrefix(text, "width 0\n"), false)
		holdText(t, "width 1\n"+strings.TrimPrefix(text, "width 0\n"), true)
	}
}

// P14.2: each line alone, behind a width, and ahead of it.
func TestOneLine(t *testing.T) {
	all := lines(plain(1))
	holdText(t, all[0], true)
	for i, s := range all {
		holdText(t, s, i == 0)
		holdText(t, all[0]+s, i != 0)
		holdText(t, s+all[0], i != 0)
		holdText(t, "width 4999\n"+s, i != 0)
	}
}

// P14.2, P14.3: lines in any order but Shape's.
func TestOrder(t *testing.T) {
	source := rand.New(rand.NewSource(142))
	for _, l := range append(some(400), plain(0), plain(1), plain(2), plain(5), plain(40)) {
		all := lines(l)
		turned := slices.Clone(all)
		slices.Reverse(turned)
		backwards := l
		backwards.Shape = slices.Clone(l.Shape)
		slices.Reverse(backwards.Shape)
		if m, e := param.Parse([]byte(strings.Join(turned, ""))); !same(m, backwards) || e != api.OK {
			t.Errorf("%v, turned: %v, %v", l, m, e)
		}
		for range 5 {
			m, e := param.Parse([]byte(strings.Join(mixed(source, all), "")))
			if !same(m, l) || e != api.OK {
				t.Errorf("%v, mixed: %v, %v", l, m, e)
			}
		}
	}
	apart := "shape 1 2\nloose 1\nshape 3 4\nwidth 9\nshape 1 2\nparts 2 3\nshape 0 1\n"
	want := api.Layout{Width: 9, Left: 2, Right: 3, Loose: 1, Shape: []api.Line{{Indent: 1, Width: 2}, {Indent: 3, Width: 4}, {Indent: 1, Width: 2}, {Width: 1}}}
	if l, e := param.Parse([]byte(apart)); !same(l, want) || e != api.OK {
		t.Errorf("%v, %v", l, e)
	}
	holdText(t, apart, true)
}

// mixed are lines in any order, those of Shape in their own one.
func mixed(source *rand.Rand, all []string) []string {
	all = slices.Clone(all)
	var shaped []string
	for _, s := range all {
		if strings.HasPrefix(s, "shape") {
			shaped = append(shaped, s)
		}
	}
	source.Shuffle(len(all), func(i, k int) { all[i], all[k] = all[k], all[i] })
	for i, s := range all {
		if strings.HasPrefix(s, "shape") {
			all[i], shaped = shaped[0], shaped[1:]
		}
	}
	return all
}

// P14.2: lines all of whose numbers are 0, there or left out; and others, left out.
func TestLeftOut(t *testing.T) {
	source := rand.New(rand.NewSource(1420))
	for _, l := range append(some(400), api.Layout{Width: 3}, plain(2)) {
		left, all := lines(l), lines(l)
		left = slices.DeleteFunc(left, func(s string) bool { return zeros(s) && source.Intn(2) == 0 })
		holdText(t, strings.Join(left, ""), true)
		if m, e := param.Parse([]byte(strings.Join(left, ""))); !same(m, l) || e != api.OK {
			t.Errorf("%q: %v, %v", left, m, e)
		}
		for i := range all {
			less := strings.Join(slices.Delete(slices.Clone(all), i, i+1), "")
			m, e := param.Parse([]byte(less))
			if i == 0 && e != api.ErrParam || i > 0 && e == api.OK && same(l, m) != zeros(all[i]) && !strings.HasPrefix(all[i], "shape") {
				t.Errorf("%q: %v, %v", less, m, e)
			}
			holdText(t, less, i > 0)
		}
	}
}

// zeros tells whether all of a line's numbers are 0.
func zeros(s string) bool {
	return !slices.ContainsFunc(strings.Fields(s)[1:], func(n string) bool { return n != "0" })
}

// P14.2: no line but shape stands twice.
func TestTwice(t *testing.T) {
	zero := lines(api.Layout{Width: 7, Shape: []api.Line{{Width: 1}}})
	full := lines(plain(1))
	other := lines(api.Layout{Width: 5001, Space: 1, Shape: []api.Line{{Indent: 1, Width: 2}}, After: 1, Right: 1, First: -1, Extra: 1, DashPen: -1, River: 1, Loose: -1})
	for i := range full {
		shaped := strings.HasPrefix(full[i], "shape")
		for _, all := range [][]string{zero, full, other} {
			for _, twice := range []string{zero[i], full[i], other[i]} {
				for at := range len(all) + 1 {
					holdText(t, strings.Join(slices.Insert(slices.Clone(all), at, twice), ""), shaped)
				}
				short := ""
				if i > 0 {
					short = all[0]
				}
				holdText(t, short+all[i]+twice, shaped)
				holdText(t, all[i]+twice+short, shaped)
				holdText(t, all[i]+short+twice, shaped)
				holdText(t, short+twice+all[i]+twice, shaped)
			}
		}
	}
}

// holdLine holds whether a line has a place in a text that has none of its name.
func holdLine(t *testing.T, s string, may bool) {
	t.Helper()
	text := "width 100\n"
	if strings.HasPrefix(s, "width") {
		text = "loose 0\n"
		holdText(t, s, may)
	}
	holdText(t, text+s, may)
	holdText(t, s+text, may)
	holdText(t, "shape 1 2\n"+text+s+"shape 3 4\n", may)
}

// P14.2: lines' names.
func TestNames(t *testing.T) {
	for _, form := range forms {
		name, _, _ := strings.Cut(form, " ")
		numbers := strings.Repeat(" 1", len(strings.Fields(form))-1)
		holdLine(t, name+numbers+"\n", true)
		for i := range len(name) {
			holdLine(t, name[:i]+numbers+"\n", false)
			holdLine(t, name[i+1:]+numbers+"\n", false)
			holdLine(t, name[:i]+name[i+1:]+numbers+"\n", false)
			holdLine(t, name[:i]+strings.ToUpper(name[i:i+1])+name[i+1:]+numbers+"\n", false)
			for b := range 256 {
				holdLine(t, name[:i]+string([]byte{byte(b)})+name[i:]+numbers+"\n", false)
				holdLine(t, name[:i]+string([]byte{byte(b)})+name[i+1:]+numbers+"\n", byte(b) == name[i])
			}
		}
		for b := range 256 {
			holdLine(t, name+string([]byte{byte(b)})+numbers+"\n", false)
		}
		for _, s := range []string{strings.ToUpper(name), name + "s", name + name, name + "\x00", " " + name, "\t" + name, "\r" + name, "\n" + name, name + " ", name + "\t", "", "form", "first", name[:1], "Width", "After", name + ":", name + "="} {
			holdLine(t, s+numbers+"\n", false)
		}
	}
}

// P14.2: how many numbers a line has.
func TestCounts(t *testing.T) {
	for _, form := range forms {
		name, _, _ := strings.Cut(form, " ")
		want := len(strings.Fields(form)) - 1
		for count := range 12 {
			for _, n := range []string{" 1", " 0"} {
				may := count == want && (n == " 1" || name != "width" && name != "shape")
				holdLine(t, name+strings.Repeat(n, count)+"\n", may)
				holdLine(t, name+strings.Repeat(n, count), false)
				holdLine(t, name+strings.Repeat(n, count)+" \n", false)
				holdLine(t, name+" "+strings.Repeat(n, count)+"\n", false)
			}
		}
		holdLine(t, name+strings.Repeat(" 1", want-1)+" 1\n", true)
		holdLine(t, name+strings.Repeat(" 1", want-1)+"1\n", false)
		holdLine(t, name+strings.Repeat(" 1", want-1)+"\n 1\n", false)
		holdLine(t, name+"\n"+strings.Repeat(" 1", want)+"\n", false)
		holdLine(t, name+strings.Repeat("1", want)+"\n", false)
		holdLine(t, strings.Repeat(" 1", want)[1:]+" "+name+"\n", false)
		holdLine(t, name+strings.Repeat(" 1", want)+" "+name+"\n", false)
	}
}

// P14.2: where bytes 10 and 32 stand, and what else does.
func TestBetween(t *testing.T) {
	for _, count := range []int{0, 1, 3} {
		all := lines(plain(count))
		text := strings.Join(all, "")
		holdText(t, text, true)
		holdText(t, strings.TrimSuffix(text, "\n"), false)
		holdText(t, text+"\n", false)
		holdText(t, text+" ", false)
		holdText(t, text+"\x00", false)
		holdText(t, text+"w", false)
		for i := range all {
			for _, extra := range []string{"\n", " \n", "\r\n", "\t\n", "#\n", " ", "\t", "\r", "\x00", "\xef\xbb\xbf", "\u00a0"} {
				holdText(t, strings.Join(slices.Insert(slices.Clone(all), i, extra), ""), false)
			}
			less := slices.Clone(all)
			less[i] = strings.TrimSuffix(less[i], "\n")
			holdText(t, strings.Join(less, ""), false)
			for _, behind := range []string{" \n", "\t\n", "\r\n", "\n\r", "\r", "\n\n", "\x00\n", ";\n", " #\n"} {
				more := slices.Clone(less)
				more[i] += behind
				holdText(t, strings.Join(more, ""), false)
			}
			for at := range len(less[i]) {
				if less[i][at] != ' ' {
					continue
				}
				for _, gap := range []string{"", "  ", "   ", "\t", " \t", "\t ", "\r", "\n", "\n ", " \n", "\x00", ",", ", ", "\u00a0", "+", "_"} {
					more := slices.Clone(all)
					more[i] = all[i][:at] + gap + all[i][at+1:]
					holdText(t, strings.Join(more, ""), false)
				}
			}
		}
	}
}

// P14.2: numbers' digits.
func TestDigits(t *testing.T) {
	wrong := []string{
		"", "-", "--", "+", "-0", "--0", "+0", "00", "000", "-00", "0-", "01", "001", "-01", "-001", "+1", "+01", "--1", "-+1", "+-1", "++1", "1-", "1+", "1-1", "-1-", "- 1", "1 ", "1.", "1.0", ".1", "0.", "1e0", "1e1", "0x1", "0X1", "0b1", "0o1", "1_0", "1,0", "_1", "1_",
		"a", "1a", "a1", "-a", "1\x00", "\x001", "1\t", "\t1", "\r1", "1\r", "1\n", "\n1", "\xff", "1\xff", "٣", "１", "½", "²", "−1", "–1", "inf", "nan", "true", "0x", "'1'", "\"1\"", "(1)", "1;", "1:1", "1/1", "1*1", "O", "l",
	}
	large := []string{
		"9223372036854775807", "9223372036854775808", "-9223372036854775808", "-9223372036854775809", "18446744073709551615", "18446744073709551616", "18446744073709551617", "-18446744073709551615", "-18446744073709551616", "-18446744073709551617", "36893488147419103233", "4294967296", "4294967297", "-4294967295", "99999999999999999999", "-99999999999999999999", "10000000000000000000000000001", "340282366920938463463374607431768211457", "9223372036854775809", "18446744073709551618", "-18446744073709551614", strings.Repeat("9", 1000), "-" + strings.Repeat("9", 1000), "1" + strings.Repeat("0", 999), strings.Repeat("0", 64) + "1", "0" + strings.Repeat("9", 30), "1" + strings.Repeat("0", 32) + "1", "1" + strings.Repeat("0", 64) + "1",
	}
	for _, form := range forms {
		words := strings.Fields(form)
		for i := 1; i < len(words); i++ {
			words[i] = "1"
		}
		for i := 1; i < len(words); i++ {
			for _, s := range slices.Concat(wrong, large) {
				words[i] = s
				holdLine(t, strings.Join(words, " ")+"\n", false)
			}
			words[i] = "1"
		}
	}
	holdLine(t, "penalties 1000 -1000 -1\n", true)
	holdLine(t, "penalties 10 -10 -1\n", true)
	holdLine(t, "bad -1 0\n", true)
	holdLine(t, "bad -10 0\n", false)
}

// P14.2: each byte in the place of one, and between two.
func TestBytes(t *testing.T) {
	for _, l := range []api.Layout{{Width: 10, Space: 12}, plain(2)} {
		text := strings.Join(lines(l), "")
		for at := range len(text) {
			for b := range 256 {
				s := text[:at] + string([]byte{byte(b)}) + text[at+1:]
				_, e := parsed(s)
				holdText(t, s, e == api.OK)
				if e == api.OK && (b != '-' && b != '0' && (b < '1' || b > '9')) && byte(b) != text[at] {
					t.Errorf("%q has a layout", s)
				}
				s = text[:at] + string([]byte{byte(b)}) + text[at:]
				_, e = parsed(s)
				holdText(t, s, e == api.OK)
			}
		}
	}
}

// P14.2: numbers that may not be, in lines that are right otherwise.
func TestBeyond(t *testing.T) {
	for _, x := range limits {
		for _, l := range []api.Layout{{Width: 7}, plain(3)} {
			for _, n := range []int{x.least - 1, x.most + 1, math.MinInt, math.MaxInt} {
				m := l
				*field(&m, x.name) = n
				all := lines(m)
				holdText(t, strings.Join(all, ""), false)
				slices.Reverse(all)
				holdText(t, strings.Join(all, ""), false)
			}
		}
	}
	for _, s := range []string{"width 0\n", "width -1\n", "width 67108865\n", "shape -1 1\n", "shape 0 0\n", "shape 1 0\n", "shape 67108865 1\n", "shape 1 67108865\n", "hang 100 0\n", "hang -100 0\n", "hang 0 101\n", "parts 41 1\n", "parts -1 1\n"} {
		holdLine(t, s, false)
	}
	for _, s := range []string{"shape 0 1\n", "shape 67108864 67108864\n", "hang 99 0\n", "hang -99 100\n", "hang 0 -100\n", "parts 40 40\n", "width 67108864\n", "width 1\n"} {
		holdLine(t, s, true)
	}
}

// P14.1, P14.2, P14.3: what is written is read.
func TestWrittenIsRead(t *testing.T) {
	for _, l := range slices.Concat(some(4000), edges(), []api.Layout{plain(0), plain(40)}) {
		if !hold(t, l) {
			t.Errorf("%v may not be", l)
		}
		b, e := param.Write(l)
		m, x := param.Parse(b)
		if !same(m, l) || e != api.OK || x != api.OK {
			t.Errorf("%q: %v, %v, %v", b, m, e, x)
		}
		if again, e := param.Write(m); !bytes.Equal(b, again) || e != api.OK || !param.Check(m) {
			t.Errorf("%q: %q, %v", b, again, e)
		}
	}
}

// P14.1, P14.2: layouts and texts that are changed at any place.
func TestNoise(t *testing.T) {
	source := rand.New(rand.NewSource(1414))
	may, not := 0, 0
	for _, l := range some(6000) {
		b := []byte(strings.Join(mixed(source, lines(l)), ""))
		for range 1 + source.Intn(2) {
			at := source.Intn(len(b))
			switch c := []byte("0123456789---- \n\n\t\r+shape")[source.Intn(25)]; source.Intn(3) {
			case 0:
				b = slices.Insert(b, at, c)
			case 1:
				b = slices.Delete(b, at, at+1)
			case 2:
				b[at] = c
			}
		}
		_, e := parsed(string(b))
		holdText(t, string(b), e == api.OK)
		x := limits[source.Intn(len(limits))]
		*field(&l, x.name) += source.Intn(2001) - 1000
		if hold(t, l) {
			may++
		} else {
			not++
		}
	}
	if may < 500 || not < 500 {
		t.Errorf("%d may be, %d not", may, not)
	}
}

// R1, for P14.1 and P14.2: what is long ends, too.
func TestLong(t *testing.T) {
	const n = 1 << 21
	for _, part := range []string{"width 1\n", "shape 0 1\n", "loose 0\n", "\n", " ", "width ", "width", "width 1 ", "space", "9", "-", "0", "\x00", "\xff", " \n", "shape 1\n"} {
		all := strings.Repeat(part, n)
		for _, s := range []string{all, all + "\n", "width 7\n" + all, "width 7\nloose" + all + "\n", "width 7\nloose " + all + "\n", "width 7\nshape " + all + " 1\n", all + "width 7\n"} {
			if l, e := param.Parse([]byte(s)); e != api.ErrParam || !same(l, api.Layout{}) {
				t.Errorf("%q: %v, %v", part, l, e)
			}
		}
	}
	l := plain(1)
	l.Shape = slices.Repeat(l.Shape, n)
	if b, e := param.Write(l); param.Check(l) || len(b) != 0 || e != api.ErrParam {
		t.Errorf("%d, %v", len(b), e)
	}
}

// R4, for P14.1 and P14.2: a list without elements may be nil or not; beside an error answers are empty.
func TestNil(t *testing.T) {
	for _, s := range [][]api.Line{nil, {}, make([]api.Line, 0, 9), shape(3)[:0]} {
		l := plain(0)
		l.Shape = s
		if !hold(t, l) {
			t.Errorf("%v may not be", l)
		}
		l.Width = 0
		if hold(t, l) {
			t.Errorf("%v may be", l)
		}
	}
	for _, s := range []string{"", "width 0\n", "width 7\nshape 1 2\nloose 6\n", "width 7\nshape 1 2\nloose", "shape 1 2\n", "width 7\nwidth 7\n", "space 1 2 3\nshape 1 2\nwidth 9\nhang 9 0\n"} {
		if l, e := param.Parse([]byte(s)); len(l.Shape) != 0 || !same(l, api.Layout{}) || e != api.ErrParam {
			t.Errorf("%q: %v, %v", s, l, e)
		}
	}
}

// R4, for P14.1 and P14.2: what is handed in stays as it is, its spare room too, and that counts for nothing.
func TestHandedInStays(t *testing.T) {
	all := slices.Concat(some(300), edges(), []api.Layout{plain(41), {}, {Width: 3, Shape: make([]api.Line, 2)}})
	for _, l := range all {
		m := l
		m.Shape = append(slices.Clone(l.Shape), api.Line{Indent: -1, Width: -1}, api.Line{Indent: 7})[:len(l.Shape)]
		was := slices.Clone(m.Shape[:len(l.Shape)+2])
		if hold(t, m) != mayBe(l) || !same(m, l) || !slices.Equal(m.Shape[:len(l.Shape)+2], was) {
			t.Errorf("%v", l)
		}
		text := strings.Join(lines(l), "")
		for _, s := range []string{text, text + "loose 1", text + "\n", strings.TrimSuffix(text, "\n"), ""} {
			b := append([]byte(s), "\n shape 1 1\n"...)[:len(s)]
			want, x := parsed(s)
			if l, e := param.Parse(b); !same(l, want) || e != x || string(b[:len(s)+12]) != s+"\n shape 1 1\n" {
				t.Errorf("%q: %v, %v, %q", s, l, e, b[:len(s)+12])
			}
		}
	}
}

// R4, for P14.1 and P14.2: a change of an answer, or of its spare room, changes neither what was handed in nor another answer; a change of what was handed in changes no answer.
func TestMemory(t *testing.T) {
	for _, l := range slices.Concat(some(300), edges(), []api.Layout{plain(0), plain(40)}) {
		m := l
		m.Shape = slices.Clone(l.Shape)
		a, _ := param.Write(m)
		b, _ := param.Write(m)
		want := string(a)
		x, _ := param.Parse(a)
		y, _ := param.Parse(a)
		clear(b[:cap(b)])
		clear(y.Shape[:cap(y.Shape)])
		if z, e := param.Parse(a); string(a) != want || !same(m, l) || !same(x, l) || !same(z, l) || e != api.OK {
			t.Errorf("%q: a change of an answer changes more", want)
		}
		if c, e := param.Write(m); string(c) != want || e != api.OK {
			t.Errorf("%q: a change of an answer changes a later one", want)
		}
		clear(m.Shape)
		c := bytes.Clone(a)
		clear(a[:cap(a)])
		if string(c) != want || !same(x, l) {
			t.Errorf("%q: a change of what was handed in changes an answer", want)
		}
	}
}

// R5, for P14.1 and P14.2: answers hang on what is handed in alone, not on what was asked ahead of it, or is asked at once, and not on a map's order.
func TestAtOnce(t *testing.T) {
	l := slices.Concat(some(80), edges(), []api.Layout{plain(41), plain(3), {}})
	var all sync.WaitGroup
	for n := range 8 {
		all.Go(func() {
			for i := range len(l) {
				hold(t, l[(i*(2*n+1)+n)%len(l)])
			}
		})
	}
	all.Wait()
	text := []byte(strings.Join(lines(plain(40)), ""))
	first, _ := param.Write(plain(40))
	for range 500 {
		m, e := param.Parse(text)
		b, x := param.Write(m)
		if !same(m, plain(40)) || !bytes.Equal(b, first) || e != api.OK || x != api.OK {
			t.Fatalf("another answer: %v, %v, %v", m, e, x)
		}
	}
}
