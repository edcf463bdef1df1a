package curve_test

import (
	"math/big"
	"testing"

	"kentledge/api"
	"kentledge/curve"
)

// P1.2
func TestCheck(t *testing.T) {
	longest := full(1)
	cases := []struct {
		name string
		c    api.Curve
		want api.Errno
	}{
		{"example", exampleC(), api.OK},
		{"one knot", curveOf(0, 5, 5), api.OK},
		{"bounds below", curveOf(0, 0, -api.MaxY, 1, -api.MaxY), api.OK},
		{"bounds above", curveOf(api.MaxErr, api.MaxX-1, api.MaxY, api.MaxX, api.MaxY), api.OK},
		{"all knots", longest, api.OK},
		{"a knot too many", tooLong(), api.ErrLimit},
		{"a good knot too many", api.Curve{Knots: append(longest.Knots, api.Knot{X: 100})}, api.ErrLimit},
		{"no knot", api.Curve{}, api.ErrArg},
		{"no knot, but a list", api.Curve{Knots: []api.Knot{}, Err: 1}, api.ErrArg},
		{"X below", curveOf(0, -1, 0), api.ErrArg},
		{"X above", curveOf(0, 0, 0, api.MaxX+1, 0), api.ErrArg},
		{"X far below", curveOf(0, minInt, 0), api.ErrArg},
		{"X far above", curveOf(0, maxInt, 0), api.ErrArg},
		{"X twice", curveOf(0, 4, 1, 4, 1), api.ErrArg},
		{"X decrease", curveOf(0, 5, 1, 4, 1), api.ErrArg},
		{"last X decreases", curveOf(0, 1, 1, 5, 1, 4, 1), api.ErrArg},
		{"Y below", curveOf(0, 0, -api.MaxY-1), api.ErrArg},
		{"Y above", curveOf(0, 0, 0, 1, api.MaxY+1), api.ErrArg},
		{"Y far below", curveOf(0, 0, minInt), api.ErrArg},
		{"Y far above", curveOf(0, 0, maxInt), api.ErrArg},
		{"error below", curveOf(-1, 0, 0), api.ErrArg},
		{"error above", curveOf(api.MaxErr+1, 0, 0), api.ErrArg},
		{"error far below", curveOf(minInt, 0, 0), api.ErrArg},
	}
	for _, c := range cases {
		equal(t, curve.Check(c.c), c.want, c.name)
	}
}

// P1.2
func TestDomain(t *testing.T) {
	for _, c := range []struct {
		c    api.Curve
		want api.Span
	}{
		{exampleC(), span(0, 20)},
		{curveOf(3, 7, 1), span(7, 7)},
		{curveOf(0, 3, 5, 4, 1, api.MaxX, 2), span(3, api.MaxX)},
	} {
		s, e := curve.Domain(c.c)
		equal(t, s, c.want, c.c)
		equal(t, e, api.OK, c.c)
	}
}

// P1.2
func TestValue(t *testing.T) {
	c := exampleC()
	for x, want := range map[int]api.Frac{0: frac(0, 1), 1: frac(1, 2), 5: frac(5, 2), 10: frac(5, 1), 11: frac(7, 1), 15: frac(15, 1), 20: frac(25, 1)} {
		v, e := curve.Value(c, x)
		equal(t, v, want, x)
		equal(t, e, api.OK, x)
	}
	for _, x := range []int{-1, 21, minInt, maxInt} {
		v, e := curve.Value(c, x)
		equal(t, v, api.Frac{}, x)
		equal(t, e, api.ErrRange, x)
	}
	single := curveOf(2, 9, -4)
	v, e := curve.Value(single, 9)
	equal(t, v, frac(-4, 1))
	equal(t, e, api.OK)
	for _, x := range []int{8, 10, 0} {
		_, e := curve.Value(single, x)
		equal(t, e, api.ErrRange, x)
	}
	steep := curveOf(0, 0, -api.MaxY, api.MaxX-1, api.MaxY)
	v, e = curve.Value(steep, 1)
	equal(t, v, fracOf(valueAt(t, steep, rat(1))))
	equal(t, e, api.OK)
}

// P1.2
func TestValues(t *testing.T) {
	cases := []struct {
		c    api.Curve
		x    int
		want api.Range
	}{
		{exampleC(), 5, rangeOf(frac(1, 2), frac(9, 2))},
		{exampleC(), 0, rangeOf(frac(-2, 1), frac(2, 1))},
		{exampleC(), 20, rangeOf(frac(23, 1), frac(27, 1))},
		{curveOf(0, 0, 0, 3, -1), 2, rangeOf(frac(-2, 3), frac(-2, 3))},
		{curveOf(api.MaxErr, 8, api.MaxY), 8, rangeOf(frac(api.MaxY-api.MaxErr, 1), frac(api.MaxY+api.MaxErr, 1))},
	}
	for _, c := range cases {
		r, e := curve.Values(c.c, c.x)
		equal(t, r, c.want, c)
		equal(t, e, api.OK, c)
	}
	for _, x := range []int{-1, 21, minInt, maxInt} {
		r, e := curve.Values(exampleC(), x)
		equal(t, r, api.Range{}, x)
		equal(t, e, api.ErrRange, x)
	}
}

// P1.2: Value and Values are what the chapter's words say, for curves of all kinds and at each integer.
func TestValueEverywhere(t *testing.T) {
	forCurves(t, func(d *dice, c api.Curve) {
		s, e := curve.Domain(c)
		good(t, e, c)
		for x := s.Lo; x <= s.Hi; x++ {
			want := valueAt(t, c, rat(x))
			v, e := curve.Value(c, x)
			equal(t, v, fracOf(want), c, x)
			equal(t, e, api.OK, c, x)
			r, e := curve.Values(c, x)
			equal(t, r.Lo, fracOf(new(big.Rat).Sub(want, rat(c.Err))), c, x)
			equal(t, r.Hi, fracOf(new(big.Rat).Add(want, rat(c.Err))), c, x)
			equal(t, e, api.OK, c, x)
		}
	})
}

// P1.3
func TestOver(t *testing.T) {
	hill := curveOf(0, 0, 1, 4, 7, 6, 7, 10, 1, 12, 1, 20, -1, 22, 7, 23, -1)
	cases := []struct {
		c    api.Curve
		s    api.Span
		want api.Peak
	}{
		{exampleC(), span(5, 15), api.Peak{Lo: frac(5, 2), Hi: frac(15, 1), AtLo: 5, AtHi: 15}},
		{exampleC(), span(3, 3), api.Peak{Lo: frac(3, 2), Hi: frac(3, 2), AtLo: 3, AtHi: 3}},
		{exampleC(), span(0, 20), api.Peak{Lo: frac(0, 1), Hi: frac(25, 1), AtLo: 0, AtHi: 20}},
		{exampleD(), span(4, 9), api.Peak{Lo: frac(10, 1), Hi: frac(10, 1), AtLo: 4, AtHi: 4}},
		{hill, span(0, 12), api.Peak{Lo: frac(1, 1), Hi: frac(7, 1), AtLo: 0, AtHi: 4}},
		{hill, span(5, 12), api.Peak{Lo: frac(1, 1), Hi: frac(7, 1), AtLo: 10, AtHi: 5}},
		{hill, span(0, 23), api.Peak{Lo: frac(-1, 1), Hi: frac(7, 1), AtLo: 20, AtHi: 4}},
		{hill, span(7, 9), api.Peak{Lo: frac(5, 2), Hi: frac(11, 2), AtLo: 9, AtHi: 7}},
		{curveOf(5, 6, 8), span(6, 6), api.Peak{Lo: frac(8, 1), Hi: frac(8, 1), AtLo: 6, AtHi: 6}},
	}
	for _, c := range cases {
		p, e := curve.Over(c.c, c.s)
		equal(t, p, c.want, c.c, c.s)
		equal(t, e, api.OK, c.c, c.s)
		equal(t, curve.CheckOver(c.c, c.s, c.want), api.OK, c.c, c.s)
	}
}

// P1.3
func TestCheckOver(t *testing.T) {
	right := api.Peak{Lo: frac(5, 2), Hi: frac(15, 1), AtLo: 5, AtHi: 15}
	equal(t, curve.CheckOver(exampleC(), span(5, 15), right), api.OK)
	wrong := []api.Peak{
		{},
		{Lo: frac(5, 2), Hi: frac(15, 1), AtLo: 6, AtHi: 15},
		{Lo: frac(5, 2), Hi: frac(15, 1), AtLo: 5, AtHi: 14},
		{Lo: frac(2, 1), Hi: frac(15, 1), AtLo: 5, AtHi: 15},
		{Lo: frac(5, 2), Hi: frac(16, 1), AtLo: 5, AtHi: 15},
		{Lo: frac(10, 4), Hi: frac(15, 1), AtLo: 5, AtHi: 15},
		{Lo: frac(5, 2), Hi: frac(-15, -1), AtLo: 5, AtHi: 15},
		{Lo: frac(5, 2), Hi: frac(15, 0), AtLo: 5, AtHi: 15},
		{Lo: frac(15, 1), Hi: frac(5, 2), AtLo: 15, AtHi: 5},
		{Lo: frac(minInt, minInt), Hi: frac(maxInt, minInt), AtLo: minInt, AtHi: maxInt},
	}
	for _, p := range wrong {
		equal(t, curve.CheckOver(exampleC(), span(5, 15), p), api.ErrProof, p)
	}
	flat := api.Peak{Lo: frac(10, 1), Hi: frac(10, 1), AtLo: 4, AtHi: 4}
	equal(t, curve.CheckOver(exampleD(), span(4, 9), flat), api.OK)
	flat.AtHi = 5 // it has the value there, too, but not first
	equal(t, curve.CheckOver(exampleD(), span(4, 9), flat), api.ErrProof)
}
