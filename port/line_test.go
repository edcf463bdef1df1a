package port_test

import (
	"slices"
	"strings"
	"testing"

	"kentledge/api"
	"kentledge/port"
)

// bytesOf are those with which lines are spoiled.
const bytesOf = " ;-0123456789gsmwxqabt+\n\t."

// spoiled is a line with a byte more, a byte less, another byte, or two that changed places.
func (d *dice) spoiled(s string) string {
	b := bytesOf[d.between(0, len(bytesOf)-1)]
	i := d.between(0, len(s))
	switch {
	case i == len(s) || d.one(4):
		return s[:i] + string(b) + s[i:]
	case d.one(3):
		return s[:i] + s[i+1:]
	case d.one(2) && i+1 < len(s):
		return s[:i] + s[i+1:i+2] + s[i:i+1] + s[i+2:]
	}
	return s[:i] + string(b) + s[i+1:]
}

// roll fills a form with numbers, most of them within their limits.
func (f form) roll(d *dice, thing any) {
	for _, way := range f.ways {
		l := f.limits[way]
		*numberAt(thing, way) = d.of(l.lo, l.hi, d.between(l.lo, l.hi), d.between(max(l.lo, -9), min(l.hi, 9)), d.between(max(l.lo, -3000), min(l.hi, 3000)))
	}
}

// entry rolls one that is formed.
func (d *dice) entry() api.Entry {
	x := api.Entry{Kind: d.between(1, 5)}
	entryForms[x.Kind].roll(d, &x)
	return x
}

// readIs fails unless Read says what the words of the chapter say.
func readIs(t *testing.T, line string) bool {
	t.Helper()
	want, is := entryOf(line)
	got, e := port.Read(line)
	equal(t, got, want, line)
	equal(t, e == api.OK, is, line)
	equal(t, e == api.OK || e == api.ErrForm, true, line, e)
	return is
}

// P10.2: the chapter's examples, and a line of each kind.
func TestLinesOfEntries(t *testing.T) {
	lines := []string{
		"g 2 1 1000 1001 1003;",
		"s 1 1 7 0 240 244 240 244 250 252 250 252 258 262 258 262 0 1 1003 1003;",
		"m 4 1 2 3 5;",
		"w 6 8 -20 30;",
		"x 3;",
		"s 9 9 8 1 2 3 4 5 6 7 8 9 10 11 12 13 14 15 16 17;",
		"g 1 -2 -3 -4 -5;",
		"g 1099511627776 -40000 1099511627776 -40000 1099511627776;",
		"w 1 0 0 0;",
		"x 60;",
	}
	x := api.Survey{ID: 8, Tick: 1, Marks: [6]api.Span{span(2, 3), span(4, 5), span(6, 7), span(8, 9), span(10, 11), span(12, 13)}, Sag: 14, Hydro: 15, Shown: span(16, 17)}
	entries := []api.Entry{
		two(), seven(), move(4, 1, 2, span(3, 5)), gauge(6, 8, span(-20, 30)), back(3), surveyed(9, 9, x),
		glass(1, -2, -3, span(-4, -5)), glass(1<<40, -40000, 1<<40, span(-40000, 1<<40)), gauge(1, 0, at(0)), back(60),
	}
	for i, want := range lines {
		equal(t, textOf(t, entries[i]), want)
		got, e := port.Read(want)
		good(t, e, want)
		equal(t, got, entries[i])
	}
}

// P10.2: each number of an entry has its limits, and fields that its kind does not have are zero.
func TestFormedEntries(t *testing.T) {
	formed, not := 0, 0
	for _, x := range append(kindsOfEntries(), api.Entry{}) {
		for _, way := range entryWays {
			for _, n := range []int{minInt, -40001, -40000, -1, 0, 1, 2, 3, 4, 5, 6, 9, 10, 60, 61, 1 << 20, 1 << 40, 1<<40 + 1, maxInt} {
				y := x
				*numberAt(&y, way) = n
				s, e := port.Text(y)
				if formedEntry(y) {
					good(t, e, y)
					equal(t, s, entryLine(y))
					formed++
				} else {
					equal(t, e, api.ErrForm, y)
					equal(t, s, "", y)
					not++
				}
			}
		}
	}
	equal(t, formed > 300 && not > 1500, true, formed, not)
}

// P10.2: lines that are none.
func TestNoLines(t *testing.T) {
	for _, s := range []string{
		"", ";", " ", "x", "x;", "x 3", "x 03;", "x 3;;", "x -0;", "x +3;", "x 61;", "x 0;", "x -1;", "x  3;", " x 3;", "x 3; ", "x 3 ;", "x 3;\n", "x\t3;", "X 3;", "y 3;", "3 x;", "x 3 4;", "x 3 ", "xx 3;",
		"x 3.0;", "x 0x3;", "x 1_0;", "x three;", "x ;", "x 9223372036854775808;", "x 99999999999999999999;", "x 00;", "x --3;", "x 3,;",
		"g 2 1 1000 1001;", "g 2 1 1000 1001 1003 5;", "g 0 1 1000 1001 1003;", "g 1099511627777 1 1000 1001 1003;", "g 2 -40001 1000 1001 1003;", "g -2 1 1000 1001 1003;", "g 2 1 1000 1001 1003; x 3;", "x 3;x 3;",
		"s 1 0 7 0 240 244 240 244 250 252 250 252 258 262 258 262 0 1 1003 1003;", "s 1 10 7 0 240 244 240 244 250 252 250 252 258 262 258 262 0 1 1003 1003;", "s 0 1 7 0 240 244 240 244 250 252 250 252 258 262 258 262 0 1 1003 1003;", "s 1 1 0 0 240 244 240 244 250 252 250 252 258 262 258 262 0 1 1003 1003;",
		"m 0 1 2 3 4;", "w 0 1 2 3;", "g;", "s;", "m;", "w;", "g 2 1 1000 1001 1003,", "tick 5;", "\x00", "x 3;\x00", "x \xff;", strings.Repeat("x 3;", 1000), strings.Repeat("0", 1000), "x " + strings.Repeat("1", 1000) + ";",
	} {
		x, e := port.Read(s)
		equal(t, e, api.ErrForm, s)
		equal(t, x, api.Entry{}, s)
		equal(t, readIs(t, s), false, s)
	}
}

// P10.2, P10.12: what Text writes is read as it was; all other lines are judged by the words of the chapter, and are right only if they are written just so.
func TestLinesAndBack(t *testing.T) {
	d := &dice{}
	met := map[string]int{}
	for range 4000 {
		x := d.entry()
		s := textOf(t, x)
		equal(t, s, entryLine(x))
		got, e := port.Read(s)
		good(t, e, s)
		equal(t, got, x)
		for range 8 {
			other := d.spoiled(s)
			if readIs(t, other) {
				y, _ := port.Read(other)
				equal(t, textOf(t, y), other)
				met["is"]++
			} else {
				met["is none"]++
			}
		}
	}
	enough(t, met, 3000, "is", "is none")
}

// P10.12: no beginning of a line, but the whole line, is a line; and nothing behind it is.
func TestBeginningsOfLines(t *testing.T) {
	d := &dice{}
	for range 500 {
		s := textOf(t, d.entry())
		for n := range len(s) {
			_, e := port.Read(s[:n])
			equal(t, e, api.ErrForm, s[:n])
		}
		for _, b := range []byte(bytesOf) {
			_, e := port.Read(s + string(b))
			equal(t, e, api.ErrForm, s, b)
		}
	}
}

// P10.2: the numbers stand in the order of the table.
func TestOrderOfNumbers(t *testing.T) {
	for _, x := range kindsOfEntries() {
		f := entryForms[x.Kind]
		for i, way := range f.ways {
			y := x
			*numberAt(&y, way) = 5
			words := strings.Split(textOf(t, y), " ")
			equal(t, strings.TrimSuffix(words[i+1], ";"), "5", y)
			equal(t, len(words), len(f.ways)+1, y)
			words[i+1] = strings.Replace(words[i+1], "5", "6", 1)
			z, e := port.Read(strings.Join(words, " "))
			good(t, e, words)
			*numberAt(&y, way) = 6
			equal(t, z, y)
		}
	}
}

// P10.3: the chapter's example, and the edges of pages.
func TestTorn(t *testing.T) {
	tornIs := func(l []string, page, left, bytes int, want ...string) {
		t.Helper()
		got, e := port.Torn(l, page, left, bytes)
		good(t, e)
		sameList(t, got, want)
	}
	abc := []string{"a", "b", "c"}
	tornIs(abc, 0, 2, 0, "a", "", "")
	tornIs(abc, 0, 2, 1, "a", "b", "")
	tornIs(abc, 0, 2, maxInt, "a", "b", "")
	tornIs(abc, 0, 0, 5, "", "", "")
	tornIs(abc, 0, 3, 1, "a", "b", "c")
	tornIs(abc, 0, 3, 0, "a", "b", "")
	tornIs([]string{"x 12;"}, 0, 1, 3, "x 1")
	tornIs([]string{"x 12;"}, 0, 1, 4, "x 12")
	tornIs([]string{"x 12;"}, 0, 1, 5, "x 12;")
	tornIs([]string{"", "x 12;"}, 0, 1, 5, "", "")
	nine := []string{"a", "b", "c", "d", "e", "f", "g", "h", "i"}
	tornIs(nine, 0, 8, 0, "a", "b", "c", "d", "e", "f", "g", "", "i")
	tornIs(nine, 0, 1, 1, "a", "", "", "", "", "", "", "", "i")
	tornIs(nine, 1, 1, 0, "a", "b", "c", "d", "e", "f", "g", "h", "")
	tornIs(nine, 1, 0, 9, "a", "b", "c", "d", "e", "f", "g", "h", "")
	tornIs(nine, 1, 1, 9, nine...)
	for _, c := range []struct {
		l                 []string
		page, left, bytes int
	}{
		{nil, 0, 0, 0}, {abc, 1, 0, 0}, {abc, -1, 0, 0}, {abc, 0, 4, 0}, {abc, 0, -1, 0}, {abc, 0, 1, -1}, {abc, 0, 0, -1}, {nine, 1, 2, 0}, {nine, 0, 9, 0}, {nine, 2, 0, 0}, {nine[:8], 1, 0, 0}, {nine, 10, 0, 0},
		{abc, minInt, 0, 0}, {abc, maxInt, 0, 0}, {abc, 1 << 61, 0, 0}, {abc, -1 << 61, 0, 0}, {abc, 0, minInt, 0}, {abc, 0, maxInt, 0}, {abc, 0, 1, minInt},
	} {
		l, e := port.Torn(c.l, c.page, c.left, c.bytes)
		equal(t, e, api.ErrArg, c)
		equal(t, len(l), 0, c)
	}
}

// P10.3, P10.13: pages have 8 lines each; a torn book has as many lines, of which those of other pages are the same; a line that can be read is the one that was there.
func TestTornLines(t *testing.T) {
	d := &dice{}
	met := map[string]int{}
	for range 3000 {
		var l []string
		for range d.of(0, 1, 7, 8, 9, 16, 17, 60, d.between(0, 60)) {
			l = append(l, d.line())
		}
		page, left, bytes := d.between(-1, 8), d.between(-1, 9), d.of(-1, 0, d.between(0, 30), d.between(0, 90), 200)
		got, e := port.Torn(l, page, left, bytes)
		of := min(8, len(l)-8*page)
		if page < 0 || of <= 0 || left < 0 || left > of || bytes < 0 {
			equal(t, e, api.ErrArg, len(l), page, left, bytes)
			equal(t, len(got), 0)
			met["error"]++
			continue
		}
		good(t, e, len(l), page, left, bytes)
		want := slices.Clone(l)
		for i := range l {
			switch at := i - 8*page; {
			case at < 0 || at >= 8 || at < left-1:
			case at == left-1 && bytes < len(l[i]):
				want[i] = l[i][:bytes]
			case at >= left:
				want[i] = ""
			}
			if x, e := port.Read(got[i]); e == api.OK {
				equal(t, got[i], l[i], x)
				met["read"]++
			} else if got[i] != l[i] {
				met["torn"]++
			}
		}
		sameList(t, got, want, page, left, bytes)
	}
	enough(t, met, 500, "error", "read", "torn")
}

// line rolls one, which sometimes is empty, or none.
func (d *dice) line() string {
	if d.one(5) {
		return ""
	}
	s := entryLine(d.entry())
	if d.one(5) {
		return s[:d.between(0, len(s))]
	}
	return s
}
