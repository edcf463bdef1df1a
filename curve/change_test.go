package curve_test

import (
	"slices"
	"testing"

	"kentledge/api"
	"kentledge/curve"
)

// P1.7
func TestRefine(t *testing.T) {
	crowded := full(2)
	nearly := api.Curve{Knots: full(2).Knots[:api.MaxKnots-1]}
	thirds := curveOf(4, 3, 0, 9, 2)
	cases := []struct {
		name string
		c    api.Curve
		xs   []int
		want api.Curve
		e    api.Errno
	}{
		{"one more", exampleC(), []int{12}, curveOf(2, 0, 0, 10, 5, 12, 9, 20, 25), api.OK},
		{"twice", exampleC(), []int{12, 12}, curveOf(2, 0, 0, 10, 5, 12, 9, 20, 25), api.OK},
		{"in any order", exampleC(), []int{19, 4, 12, 2, 4}, curveOf(2, 0, 0, 2, 1, 4, 2, 10, 5, 12, 9, 19, 23, 20, 25), api.OK},
		{"knots stay", exampleC(), []int{20, 0, 10}, exampleC(), api.OK},
		{"none", exampleC(), nil, exampleC(), api.OK},
		{"none of one knot", curveOf(1, 8, 8), []int{}, curveOf(1, 8, 8), api.OK},
		{"one knot", curveOf(1, 8, 8), []int{8, 8, 8}, curveOf(1, 8, 8), api.OK},
		{"no integer", exampleC(), []int{5}, api.Curve{}, api.ErrRange},
		{"no integer behind a good one", exampleC(), []int{12, 5}, api.Curve{}, api.ErrRange},
		{"thirds", thirds, []int{6}, curveOf(4, 3, 0, 6, 1, 9, 2), api.OK},
		{"no thirds", thirds, []int{6, 7}, api.Curve{}, api.ErrRange},
		{"before the domain", thirds, []int{2}, api.Curve{}, api.ErrRange},
		{"behind the domain", thirds, []int{10}, api.Curve{}, api.ErrRange},
		{"outside of one knot", curveOf(1, 8, 8), []int{9}, api.Curve{}, api.ErrRange},
		{"far outside", thirds, []int{minInt}, api.Curve{}, api.ErrRange},
		{"far outside above", thirds, []int{maxInt}, api.Curve{}, api.ErrRange},
		{"full, and no more", crowded, []int{0, 2, 4, 78, 78}, crowded, api.OK},
		{"too many, and one outside", exampleD(), append(upTo(20), 21), api.Curve{}, api.ErrRange},
	}
	for _, c := range cases {
		r, e := curve.Refine(c.c, c.xs)
		sameCurve(t, r, c.want, c.name)
		equal(t, e, c.e, c.name)
	}
	flat := curveOf(0, 0, 7, 100, 7)
	r, e := curve.Refine(flat, upTo(api.MaxKnots-2))
	equal(t, len(r.Knots), api.MaxKnots, "as many as there can be")
	equal(t, e, api.OK)
	r, e = curve.Refine(flat, upTo(api.MaxKnots-1))
	sameCurve(t, r, api.Curve{}, "one too many")
	equal(t, e, api.ErrLimit)
	_, e = curve.Refine(flat, append(upTo(api.MaxKnots-1), 101))
	equal(t, e, api.ErrRange, "a limit, but one behind it is outside")
	_, e = curve.Refine(nearly, []int{1})
	equal(t, e, api.ErrRange, "no integer comes before the limit")
}

// upTo returns 0 to n, many times each, from above.
func upTo(n int) []int {
	var l []int
	for range 3 {
		for x := n; x >= 0; x-- {
			l = append(l, x)
		}
	}
	return l
}

// P1.7
func TestThin(t *testing.T) {
	cases := []struct {
		name    string
		c, want api.Curve
	}{
		{"nothing to do", exampleC(), exampleC()},
		{"one knot", curveOf(3, 5, 5), curveOf(3, 5, 5)},
		{"two knots", exampleD(), exampleD()},
		{"one on the line", curveOf(2, 0, 0, 10, 5, 12, 9, 20, 25), exampleC()},
		{"a whole line", curveOf(1, 0, 0, 1, 2, 2, 4, 7, 14, 9, 18), curveOf(1, 0, 0, 9, 18)},
		{"flat", curveOf(1, 0, 4, 1, 4, 2, 4), curveOf(1, 0, 4, 2, 4)},
		{"two lines", curveOf(1, 0, 0, 1, 1, 2, 2, 3, 1, 4, 0), curveOf(1, 0, 0, 2, 2, 4, 0)},
		{"slight bend", curveOf(0, 0, 0, 1000, 1000, 2000, 2001), curveOf(0, 0, 0, 1000, 1000, 2000, 2001)},
		{"opposite slopes", curveOf(0, 0, 0, 1, 1, 2, 0), curveOf(0, 0, 0, 1, 1, 2, 0)},
		{"the greatest rise", curveOf(0, 0, -api.MaxY, 1000, 0, 2000, api.MaxY), curveOf(0, 0, -api.MaxY, 2000, api.MaxY)},
	}
	for _, c := range cases {
		r, e := curve.Thin(c.c)
		sameCurve(t, r, c.want, c.name)
		equal(t, e, api.OK, c.name)
	}
}

// P1.7
func TestCut(t *testing.T) {
	thirds := curveOf(4, 3, 0, 9, 2)
	cases := []struct {
		c    api.Curve
		s    api.Span
		want api.Curve
		e    api.Errno
	}{
		{exampleC(), span(4, 12), curveOf(2, 4, 2, 10, 5, 12, 9), api.OK},
		{exampleC(), span(0, 20), exampleC(), api.OK},
		{exampleC(), span(10, 20), curveOf(2, 10, 5, 20, 25), api.OK},
		{exampleC(), span(11, 12), curveOf(2, 11, 7, 12, 9), api.OK},
		{exampleC(), span(12, 12), curveOf(2, 12, 9), api.OK},
		{exampleC(), span(10, 10), curveOf(2, 10, 5), api.OK},
		{exampleC(), span(5, 5), api.Curve{}, api.ErrRange},
		{exampleC(), span(5, 12), api.Curve{}, api.ErrRange},
		{exampleC(), span(2, 9), api.Curve{}, api.ErrRange},
		{exampleC(), span(-1, 10), api.Curve{}, api.ErrRange},
		{exampleC(), span(10, 21), api.Curve{}, api.ErrRange},
		{exampleC(), span(10, 9), api.Curve{}, api.ErrArg},
		{exampleC(), span(30, 29), api.Curve{}, api.ErrArg},
		{exampleC(), span(minInt, maxInt), api.Curve{}, api.ErrRange},
		{exampleC(), span(maxInt, minInt), api.Curve{}, api.ErrArg},
		{thirds, span(6, 9), curveOf(4, 6, 1, 9, 2), api.OK},
		{thirds, span(4, 9), api.Curve{}, api.ErrRange},
		{curveOf(6, 7, 7), span(7, 7), curveOf(6, 7, 7), api.OK},
		{curveOf(2, 0, 0, 10, 5, 12, 9, 20, 25), span(4, 14), curveOf(2, 4, 2, 10, 5, 12, 9, 14, 13), api.OK},
	}
	for _, c := range cases {
		r, e := curve.Cut(c.c, c.s)
		sameCurve(t, r, c.want, c.c, c.s)
		equal(t, e, c.e, c.c, c.s)
	}
}

// P1.8
func TestAddMinus(t *testing.T) {
	c := exampleC()
	d := curveOf(1, 0, 10, 10, -3, 20, 7)
	top := curveOf(api.MaxErr, 0, api.MaxY, 5, -api.MaxY)
	zero := curveOf(0, 0, 0, 5, 0)
	unit := curveOf(0, 0, 1, 5, 0)
	low := curveOf(0, 0, 0, 5, 1)
	unsure := curveOf(1, 0, 0, 5, 0)
	cases := []struct {
		name       string
		a, b       api.Curve
		sum, rest  api.Curve
		eSum, eMin api.Errno
	}{
		{"ordinary", c, d, curveOf(3, 0, 10, 10, 2, 20, 32), curveOf(3, 0, -10, 10, 8, 20, 18), api.OK, api.OK},
		{"itself", c, c, curveOf(4, 0, 0, 10, 10, 20, 50), curveOf(4, 0, 0, 10, 0, 20, 0), api.OK, api.OK},
		{"one knot", curveOf(1, 3, 4), curveOf(2, 3, 9), curveOf(3, 3, 13), curveOf(3, 3, -5), api.OK, api.OK},
		{"fewer knots", c, exampleD(), api.Curve{}, api.Curve{}, api.ErrState, api.ErrState},
		{"more knots", exampleD(), c, api.Curve{}, api.Curve{}, api.ErrState, api.ErrState},
		{"another X", c, curveOf(1, 0, 10, 11, -3, 20, 7), api.Curve{}, api.Curve{}, api.ErrState, api.ErrState},
		{"another last X", c, curveOf(1, 0, 10, 10, -3, 21, 7), api.Curve{}, api.Curve{}, api.ErrState, api.ErrState},
		{"the beginning", c, curveOf(1, 0, 10, 10, -3), api.Curve{}, api.Curve{}, api.ErrState, api.ErrState},
		{"at the bounds", top, zero, top, top, api.OK, api.OK},
		{"Y above", top, unit, api.Curve{}, curveOf(api.MaxErr, 0, api.MaxY-1, 5, -api.MaxY), api.ErrRange, api.OK},
		{"Y below", top, low, curveOf(api.MaxErr, 0, api.MaxY, 5, 1-api.MaxY), api.Curve{}, api.OK, api.ErrRange},
		{"the error", top, unsure, api.Curve{}, api.Curve{}, api.ErrRange, api.ErrRange},
		{"all of it", top, top, api.Curve{}, api.Curve{}, api.ErrRange, api.ErrRange},
		{"another X before the range", top, curveOf(1, 0, api.MaxY), api.Curve{}, api.Curve{}, api.ErrState, api.ErrState},
	}
	for _, k := range cases {
		r, e := curve.Add(k.a, k.b)
		sameCurve(t, r, k.sum, k.name)
		equal(t, e, k.eSum, k.name)
		r, e = curve.Minus(k.a, k.b)
		sameCurve(t, r, k.rest, k.name)
		equal(t, e, k.eMin, k.name)
	}
}

// P1.7: all three keep the error.
func TestErrorIsKept(t *testing.T) {
	forCurves(t, func(d *dice, c api.Curve) {
		r, e := curve.Refine(c, []int{c.Knots[0].X})
		good(t, e, c)
		equal(t, r.Err, c.Err, c)
		r, e = curve.Thin(c)
		good(t, e, c)
		equal(t, r.Err, c.Err, c)
		last := slices.MaxFunc(c.Knots, func(a, b api.Knot) int { return a.X - b.X }).X
		r, e = curve.Cut(c, span(last, last))
		good(t, e, c)
		equal(t, r.Err, c.Err, c)
	})
}
