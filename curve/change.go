package curve

import (
	"cmp"
	"slices"

	"kentledge/api"
)

// Refine returns the same curve with knots at some more X.
func Refine(c api.Curve, xs []int) (api.Curve, api.Errno) {
	if e := Check(c); e != api.OK {
		return api.Curve{}, e
	}
	knots := slices.Clone(c.Knots)
	for _, x := range xs {
		k, found := knotAt(c, x)
		if !found {
			return api.Curve{}, api.ErrRange
		}
		knots = append(knots, k)
	}
	slices.SortFunc(knots, func(a, b api.Knot) int { return cmp.Compare(a.X, b.X) })
	knots = slices.Compact(knots)
	if len(knots) > api.MaxKnots {
		return api.Curve{}, api.ErrLimit
	}
	return api.Curve{Knots: knots, Err: c.Err}, api.OK
}

// knotAt returns the knot that a curve can have at x, and whether it can have one there.
func knotAt(c api.Curve, x int) (api.Knot, bool) {
	if checkAt(x, c) != api.OK {
		return api.Knot{}, false
	}
	v := value(c, x)
	if v.Den != 1 {
		return api.Knot{}, false
	}
	return api.Knot{X: x, Y: v.Num}, true
}

// Thin returns the same curve without the knots that do not matter.
func Thin(c api.Curve) (api.Curve, api.Errno) {
	if e := Check(c); e != api.OK {
		return api.Curve{}, e
	}
	return api.Curve{Knots: bends(c), Err: c.Err}, api.OK
}

// bends returns the first and the last knot, and those between them at which the slope changes.
// It suffices to look at the knots beside each one: leaving out a knot changes no slope.
func bends(c api.Curve) []api.Knot {
	knots := []api.Knot{c.Knots[0]}
	var before piece
	for i, p := range pieces(c) {
		if i > 0 && before.rise()*p.run() != p.rise()*before.run() {
			knots = append(knots, p.from)
		}
		before = p
	}
	if len(c.Knots) > 1 {
		knots = append(knots, before.to)
	}
	return knots
}

// Cut returns the part of a curve over a span.
func Cut(c api.Curve, s api.Span) (api.Curve, api.Errno) {
	if e := Check(c); e != api.OK {
		return api.Curve{}, e
	}
	if e := checkOn(s, c); e != api.OK {
		return api.Curve{}, e
	}
	var knots []api.Knot
	for _, x := range corners(s, c) {
		k, found := knotAt(c, x)
		if !found {
			return api.Curve{}, api.ErrRange
		}
		knots = append(knots, k)
	}
	return api.Curve{Knots: knots, Err: c.Err}, api.OK
}

// Add returns the sum of two curves with the same X.
func Add(a, b api.Curve) (api.Curve, api.Errno) { return combine(a, b, 1) }

// Minus returns the difference of two curves with the same X.
func Minus(a, b api.Curve) (api.Curve, api.Errno) { return combine(a, b, -1) }

// combine adds the values of b, times a factor. The errors add up whatever the factor is: each of both can err either way.
func combine(a, b api.Curve, times int) (api.Curve, api.Errno) {
	if e := check(a, b); e != api.OK {
		return api.Curve{}, e
	}
	if !slices.EqualFunc(a.Knots, b.Knots, func(k, l api.Knot) bool { return k.X == l.X }) {
		return api.Curve{}, api.ErrState
	}
	c := api.Curve{Knots: slices.Clone(a.Knots), Err: a.Err + b.Err}
	for i, k := range b.Knots {
		c.Knots[i].Y += times * k.Y
	}
	if Check(c) != api.OK {
		return api.Curve{}, api.ErrRange
	}
	return c, api.OK
}
