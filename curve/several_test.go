package curve_test

import (
	"math/big"
	"slices"
	"testing"

	"kentledge/api"
	"kentledge/curve"
)

// P1.9
func TestApart(t *testing.T) {
	c, d := exampleC(), exampleD()
	wide := curveOf(0, 0, -api.MaxY, api.MaxX, api.MaxY-1)
	other := curveOf(0, 1, api.MaxY, api.MaxX, -api.MaxY+1)
	cases := []struct {
		a, b api.Curve
		s    api.Span
		want api.Peak
	}{
		{c, d, span(0, 20), api.Peak{Lo: frac(-10, 1), Hi: frac(15, 1), AtLo: 0, AtHi: 20}},
		{d, c, span(0, 20), api.Peak{Lo: frac(-15, 1), Hi: frac(10, 1), AtLo: 20, AtHi: 0}},
		{c, c, span(3, 17), api.Peak{Lo: frac(0, 1), Hi: frac(0, 1), AtLo: 3, AtHi: 3}},
		{c, d, span(5, 5), api.Peak{Lo: frac(-15, 2), Hi: frac(-15, 2), AtLo: 5, AtHi: 5}},
		{c, curveOf(0, 0, 0, 20, 25), span(0, 20), api.Peak{Lo: frac(-15, 2), Hi: frac(0, 1), AtLo: 10, AtHi: 0}},
		{curveOf(0, 0, 0, 20, 25), c, span(1, 20), api.Peak{Lo: frac(0, 1), Hi: frac(15, 2), AtLo: 20, AtHi: 10}},
		{c, curveOf(5, 7, 7), span(7, 7), api.Peak{Lo: frac(-7, 2), Hi: frac(-7, 2), AtLo: 7, AtHi: 7}},
		{curveOf(0, 0, 1, 6, 4), curveOf(0, 2, 2, 9, 2), span(3, 4), api.Peak{Lo: frac(1, 2), Hi: frac(1, 1), AtLo: 3, AtHi: 4}},
		{curveOf(0, 0, 0, 3, 1), curveOf(0, 0, 0, 2, 1, 4, 2), span(1, 1), api.Peak{Lo: frac(-1, 6), Hi: frac(-1, 6), AtLo: 1, AtHi: 1}},
	}
	for _, k := range cases {
		p, e := curve.Apart(k.a, k.b, k.s)
		equal(t, p, k.want, k)
		equal(t, e, api.OK, k)
	}
	p, e := curve.Apart(wide, other, span(2, 1999))
	lo := new(big.Rat).Sub(valueAt(t, wide, rat(2)), valueAt(t, other, rat(2)))
	hi := new(big.Rat).Sub(valueAt(t, wide, rat(1999)), valueAt(t, other, rat(1999)))
	equal(t, p, api.Peak{Lo: fracOf(lo), Hi: fracOf(hi), AtLo: 2, AtHi: 1999}, "the greatest denominators")
	equal(t, e, api.OK)
	for _, s := range []api.Span{span(-1, 5), span(0, 21), span(6, 21), span(minInt, maxInt)} {
		p, e := curve.Apart(c, d, s)
		equal(t, p, api.Peak{}, s)
		equal(t, e, api.ErrRange, s)
	}
}

// P1.10
func TestCross(t *testing.T) {
	c, d := exampleC(), exampleD()
	zigzag := curveOf(0, 0, -1, 1, 1, 2, -1, 3, 1)
	zero := curveOf(0, 0, 0, 9, 0)
	cases := []struct {
		name string
		a, b api.Curve
		want []api.Span
	}{
		{"example", c, d, []api.Span{span(12, 13)}},
		{"the other way", d, c, []api.Span{span(12, 13)}},
		{"itself", c, c, []api.Span{span(0, 20)}},
		{"never", c, curveOf(0, 0, 26, 20, 26), nil},
		{"no integer in both", curveOf(0, 0, 1, 4, 1), curveOf(0, 5, 1, 9, 1), nil},
		{"one integer in both, equal", curveOf(0, 0, 1, 5, 1), curveOf(0, 5, 1, 9, 1), []api.Span{span(5, 5)}},
		{"one integer in both, not equal", curveOf(0, 0, 1, 5, 2), curveOf(0, 5, 1, 9, 1), nil},
		{"one knot on it", c, curveOf(0, 10, 5), []api.Span{span(10, 10)}},
		{"one knot beside it", c, curveOf(0, 10, 6), nil},
		{"two knots", curveOf(3, 10, 6), curveOf(0, 10, 6), []api.Span{span(10, 10)}},
		{"each step", zigzag, zero, []api.Span{span(0, 1), span(1, 2), span(2, 3)}},
		{"at an integer", curveOf(0, 0, -2, 4, 2), zero, []api.Span{span(2, 2)}},
		{"touched from above", curveOf(0, 0, 2, 2, 0, 4, 2), zero, []api.Span{span(2, 2)}},
		{"touched at both ends", curveOf(0, 0, 0, 2, 3, 4, 0), zero, []api.Span{span(0, 0), span(4, 4)}},
		{"a run, then a crossing", curveOf(0, 0, 1, 1, 0, 4, 0, 5, -1, 6, 2), zero, []api.Span{span(1, 4), span(5, 6)}},
		{"a crossing, then a run", curveOf(0, 2, 1, 3, -1, 4, 0, 5, 0), zero, []api.Span{span(2, 3), span(4, 5)}},
		{"a run from one side to the same", curveOf(0, 0, 1, 1, 0, 2, 0, 3, 1), zero, []api.Span{span(1, 2)}},
		{"two runs with one integer between", curveOf(0, 0, 0, 1, 0, 2, 1, 3, 0, 4, 0), zero, []api.Span{span(0, 1), span(3, 4)}},
		{"a run over a knot of the other", curveOf(0, 0, 0, 8, 4), curveOf(0, 2, 1, 4, 2, 6, 3, 8, 8), []api.Span{span(2, 6)}},
		{"part of the domains", curveOf(0, 0, -5, 10, 5), curveOf(0, 6, 0, 9, 2), nil},
	}
	for _, k := range cases {
		l, e := curve.Cross(k.a, k.b)
		if !slices.Equal(l, k.want) {
			t.Errorf("got %v, want %v: %v", l, k.want, k.name)
		}
		equal(t, e, api.OK, k.name)
	}
	forPairs(t, func(d *dice, a, b api.Curve) {
		l, e := curve.Cross(a, b)
		good(t, e, a, b)
		if want := crossings(t, a, b); !slices.Equal(l, want) {
			t.Errorf("got %v, want %v: %v %v", l, want, a, b)
		}
	})
}

// signs returns the sign of a less b at each integer that both know.
func signs(t *testing.T, a, b api.Curve) (int, []int) {
	t.Helper()
	both := shared(a, b)
	var l []int
	for x := both.Lo; x <= both.Hi; x++ {
		l = append(l, valueAt(t, a, rat(x)).Cmp(valueAt(t, b, rat(x))))
	}
	return both.Lo, l
}

// crossings finds by the signs alone what Cross has to return.
func crossings(t *testing.T, a, b api.Curve) []api.Span {
	t.Helper()
	first, l := signs(t, a, b)
	var found []api.Span
	for i := 0; i < len(l); i++ {
		if l[i] != 0 {
			if i+1 < len(l) && l[i]*l[i+1] < 0 {
				found = append(found, span(first+i, first+i+1))
			}
			continue
		}
		from := i
		for i+1 < len(l) && l[i+1] == 0 {
			i++
		}
		found = append(found, span(first+from, first+i))
	}
	return found
}

// P1.11
func TestClash(t *testing.T) {
	c, d := exampleC(), exampleD()
	cases := []struct {
		name string
		a, b api.Curve
		x    int
		is   bool
	}{
		{"example", c, d, 0, true},
		{"the other way", d, c, 0, true},
		{"itself", c, c, 0, false},
		{"just within", curveOf(2, 0, 0, 5, 0), curveOf(1, 0, 3, 5, 3), 0, false},
		{"just without", curveOf(2, 0, 0, 5, 0), curveOf(1, 0, 4, 5, 4), 0, true},
		{"just without below", curveOf(2, 0, 4, 5, 4), curveOf(1, 0, 0, 5, 0), 0, true},
		{"later", curveOf(2, 0, 0, 10, 10), curveOf(1, 0, 0, 10, 0), 4, true},
		{"later below", curveOf(2, 0, 0, 10, -10), curveOf(1, 0, 0, 10, 0), 4, true},
		{"by a fraction", curveOf(1, 0, 0, 3, 4), curveOf(0, 0, 0, 3, 0), 1, true},
		{"not by a fraction", curveOf(1, 0, 0, 3, 2), curveOf(0, 0, 0, 3, 1), 0, false},
		{"only between, at a knot", curveOf(0, 0, 0, 4, 1, 8, 0), curveOf(0, 0, 0, 8, 0), 1, true},
		{"at the last integer only", curveOf(1, 3, 0, 5, 0, 6, 2), curveOf(0, 0, 0, 9, 0), 6, true},
		{"only outside of one", curveOf(0, 0, 9, 5, 0), curveOf(0, 5, 0, 9, 9), 0, false},
		{"the first one they share", curveOf(0, 0, 9, 5, 9), curveOf(0, 3, 0, 9, 9), 3, true},
		{"nothing shared", curveOf(0, 0, 9, 5, 9), curveOf(0, 6, 0, 9, 0), 0, false},
		{"two knots", curveOf(1, 6, 9), curveOf(1, 6, 6), 6, true},
		{"two close knots", curveOf(1, 6, 9), curveOf(1, 6, 7), 0, false},
		{"one knot", c, curveOf(0, 15, 18), 15, true},
		{"one close knot", c, curveOf(0, 15, 17), 0, false},
		{"greatest errors", curveOf(api.MaxErr, 0, 2*api.MaxErr, api.MaxX, 0), curveOf(api.MaxErr, 0, 0, api.MaxX, 0), 0, false},
	}
	for _, k := range cases {
		x, is, e := curve.Clash(k.a, k.b)
		equal(t, x, k.x, k.name)
		equal(t, is, k.is, k.name)
		equal(t, e, api.OK, k.name)
	}
}

// P1.11
func TestBoth(t *testing.T) {
	c, d := exampleC(), exampleD()
	cases := []struct {
		name string
		l    []api.Curve
		x    int
		want api.Range
		e    api.Errno
	}{
		{"example", []api.Curve{c, d}, 13, rangeOf(frac(9, 1), frac(11, 1)), api.OK},
		{"the other way", []api.Curve{d, c}, 13, rangeOf(frac(9, 1), frac(11, 1)), api.OK},
		{"one", []api.Curve{c}, 5, rangeOf(frac(1, 2), frac(9, 2)), api.OK},
		{"the same twice", []api.Curve{c, c}, 5, rangeOf(frac(1, 2), frac(9, 2)), api.OK},
		{"in one number", []api.Curve{c, curveOf(0, 5, -1, 15, 13)}, 10, rangeOf(frac(6, 1), frac(6, 1)), api.OK},
		{"they just touch", []api.Curve{curveOf(1, 0, 0), curveOf(2, 0, 3)}, 0, rangeOf(frac(1, 1), frac(1, 1)), api.OK},
		{"they just do not", []api.Curve{curveOf(1, 0, 0), curveOf(2, 0, 4)}, 0, api.Range{}, api.ErrClash},
		{"three", []api.Curve{curveOf(5, 0, 0), curveOf(5, 0, 4), curveOf(5, 0, -3)}, 0, rangeOf(frac(-1, 1), frac(2, 1)), api.OK},
		{"the first and the last clash", []api.Curve{curveOf(1, 0, 0), curveOf(9, 0, 2), curveOf(1, 0, 3)}, 0, api.Range{}, api.ErrClash},
		{"clash", []api.Curve{c, d}, 0, api.Range{}, api.ErrClash},
		{"no curve", nil, 0, api.Range{}, api.ErrNone},
		{"no curve, and any x", []api.Curve{}, minInt, api.Range{}, api.ErrNone},
		{"as many as can be", slices.Repeat([]api.Curve{d}, api.MaxSheaf), 3, rangeOf(frac(9, 1), frac(11, 1)), api.OK},
		{"one too many", slices.Repeat([]api.Curve{d}, api.MaxSheaf+1), 3, api.Range{}, api.ErrLimit},
		{"outside of the last", []api.Curve{d, d, curveOf(0, 4, 10)}, 3, api.Range{}, api.ErrRange},
		{"outside before a clash", []api.Curve{curveOf(0, 3, 1), curveOf(0, 3, 2), curveOf(0, 4, 10)}, 3, api.Range{}, api.ErrRange},
	}
	for _, k := range cases {
		r, e := curve.Both(k.l, k.x)
		equal(t, r, k.want, k.name)
		equal(t, e, k.e, k.name)
	}
}

// P1.11
func TestLeast(t *testing.T) {
	c, d := exampleC(), exampleD()
	cases := []struct {
		name string
		l    []api.Curve
		x    int
		i    int
		v    api.Frac
		e    api.Errno
	}{
		{"the second", []api.Curve{d, c}, 5, 1, frac(5, 2), api.OK},
		{"the first", []api.Curve{d, c}, 13, 0, frac(10, 1), api.OK},
		{"one", []api.Curve{c}, 5, 0, frac(5, 2), api.OK},
		{"the first of equal ones", []api.Curve{d, c, c, d, c}, 5, 1, frac(5, 2), api.OK},
		{"errors do not matter", []api.Curve{curveOf(9, 0, 3), curveOf(0, 0, 2)}, 0, 1, frac(2, 1), api.OK},
		{"below 0", []api.Curve{curveOf(0, 0, -2), curveOf(0, 0, -3), curveOf(0, 0, 1)}, 0, 1, frac(-3, 1), api.OK},
		{"close ones", []api.Curve{curveOf(0, 0, 0, 1999, 1), curveOf(0, 0, 0, 2000, 1)}, 1, 1, frac(1, 2000), api.OK},
		{"no curve", nil, 0, 0, api.Frac{}, api.ErrNone},
		{"no curve, and any x", []api.Curve{}, maxInt, 0, api.Frac{}, api.ErrNone},
		{"the last one", append(slices.Repeat([]api.Curve{d}, api.MaxSheaf-1), c), 3, api.MaxSheaf - 1, frac(3, 2), api.OK},
		{"one too many", slices.Repeat([]api.Curve{d}, api.MaxSheaf+1), 3, 0, api.Frac{}, api.ErrLimit},
		{"outside of one", []api.Curve{c, curveOf(0, 4, 10), c}, 3, 0, api.Frac{}, api.ErrRange},
	}
	for _, k := range cases {
		i, v, e := curve.Least(k.l, k.x)
		equal(t, i, k.i, k.name)
		equal(t, v, k.v, k.name)
		equal(t, e, k.e, k.name)
	}
}

// P1.12
func TestSame(t *testing.T) {
	c := exampleC()
	cases := []struct {
		name string
		a, b api.Curve
		want bool
	}{
		{"itself", c, c, true},
		{"a knot more", c, curveOf(2, 0, 0, 10, 5, 12, 9, 20, 25), true},
		{"other straight knots", curveOf(2, 0, 0, 4, 2, 10, 5, 20, 25), curveOf(2, 0, 0, 10, 5, 12, 9, 20, 25), true},
		{"another error", c, curveOf(3, 0, 0, 10, 5, 20, 25), false},
		{"another value", c, curveOf(2, 0, 0, 10, 6, 20, 25), false},
		{"another value at the end", c, curveOf(2, 0, 0, 10, 5, 20, 26), false},
		{"another bend", c, curveOf(2, 0, 0, 10, 5, 11, 6, 20, 25), false},
		{"no bend", c, curveOf(2, 0, 0, 20, 25), false},
		{"a longer line", curveOf(0, 0, 0, 5, 5), curveOf(0, 0, 0, 6, 6), false},
		{"an earlier line", curveOf(0, 1, 1, 6, 6), curveOf(0, 0, 0, 6, 6), false},
		{"one knot", curveOf(1, 3, 3), curveOf(1, 3, 3), true},
		{"another knot", curveOf(1, 3, 3), curveOf(1, 4, 3), false},
		{"another height", curveOf(1, 3, 3), curveOf(1, 3, 4), false},
	}
	for _, k := range cases {
		for _, pair := range [][2]api.Curve{{k.a, k.b}, {k.b, k.a}} {
			is, e := curve.Same(pair[0], pair[1])
			equal(t, is, k.want, k.name)
			equal(t, e, api.OK, k.name)
		}
	}
	forPairs(t, func(d *dice, a, b api.Curve) {
		small := curveOf(a.Err, a.Knots[0].X, d.between(0, 1), a.Knots[0].X+1, 0, a.Knots[0].X+2, d.between(-1, 0))
		other := curveOf(d.between(0, 1), small.Knots[0].X, d.between(0, 1), small.Knots[2].X, d.between(-1, 0))
		for _, pair := range [][2]api.Curve{{a, b}, {small, other}} {
			is, e := curve.Same(pair[0], pair[1])
			good(t, e, pair)
			equal(t, is, sameByWords(t, pair[0], pair[1]), pair)
		}
	})
}

// sameByWords compares values at integers: between them, both are straight.
func sameByWords(t *testing.T, a, b api.Curve) bool {
	t.Helper()
	both := shared(a, b)
	if a.Err != b.Err || both != shared(a, a) || both != shared(b, b) {
		return false
	}
	_, l := signs(t, a, b)
	return !slices.ContainsFunc(l, func(s int) bool { return s != 0 })
}
