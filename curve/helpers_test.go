package curve_test

import (
	"math/big"
	"slices"
	"testing"

	"kentledge/api"
	"kentledge/curve"
)

const (
	minInt = -1 << 63
	maxInt = 1<<63 - 1
)

// curveOf makes a curve of an error and of pairs of X and Y.
func curveOf(err int, xy ...int) api.Curve {
	c := api.Curve{Err: err}
	for i := 0; i < len(xy); i += 2 {
		c.Knots = append(c.Knots, api.Knot{X: xy[i], Y: xy[i+1]})
	}
	return c
}

// exampleC and exampleD are the curves of the chapter's examples.
func exampleC() api.Curve { return curveOf(2, 0, 0, 10, 5, 20, 25) }

func exampleD() api.Curve { return curveOf(1, 0, 10, 20, 10) }

// tooLong has one knot too many, and is invalid in every other way as well.
func tooLong() api.Curve { return api.Curve{Knots: make([]api.Knot, api.MaxKnots+1), Err: -1} }

// full has as many knots as are allowed, with X from 0 in steps.
func full(step int) api.Curve {
	c := api.Curve{}
	for i := range api.MaxKnots {
		c.Knots = append(c.Knots, api.Knot{X: i * step, Y: i % 2})
	}
	return c
}

func frac(num, den int) api.Frac { return api.Frac{Num: num, Den: den} }

func span(lo, hi int) api.Span { return api.Span{Lo: lo, Hi: hi} }

func rangeOf(lo, hi api.Frac) api.Range { return api.Range{Lo: lo, Hi: hi} }

func rat(n int) *big.Rat { return big.NewRat(int64(n), 1) }

func ratOf(f api.Frac) *big.Rat { return big.NewRat(int64(f.Num), int64(f.Den)) }

// fracOf brings an exact number into the form that is promised: lowest terms.
func fracOf(r *big.Rat) api.Frac {
	return api.Frac{Num: int(r.Num().Int64()), Den: int(r.Denom().Int64())}
}

// valueAt computes the value by the chapter's words, at any number of the domain.
func valueAt(t *testing.T, c api.Curve, x *big.Rat) *big.Rat {
	t.Helper()
	whole := int(new(big.Int).Div(x.Num(), x.Denom()).Int64())
	for i, k := range c.Knots {
		if k.X == whole && x.IsInt() {
			return rat(k.Y)
		}
		if i+1 < len(c.Knots) && k.X <= whole && whole < c.Knots[i+1].X {
			n := c.Knots[i+1]
			r := new(big.Rat).Sub(x, rat(k.X))
			r.Mul(r, big.NewRat(int64(n.Y-k.Y), int64(n.X-k.X)))
			return r.Add(r, rat(k.Y))
		}
	}
	t.Fatal("not in the domain", c, x)
	return nil
}

// dice rolls numbers, the same ones in each run.
type dice struct{ state uint64 }

func (d *dice) between(lo, hi int) int {
	d.state = d.state*6364136223846793005 + 1442695040888963407
	return lo + int((d.state>>33)%uint64(hi-lo+1))
}

// curve rolls a valid curve; small bounds make equal values and straight knots likely.
func (d *dice) curve(knots, maxX, maxY, maxErr int) api.Curve {
	n := d.between(1, min(knots, maxX+1))
	xs := []int{}
	for len(xs) < n {
		if x := d.between(0, maxX); !slices.Contains(xs, x) {
			xs = append(xs, x)
		}
	}
	slices.Sort(xs)
	c := api.Curve{Err: d.between(0, maxErr)}
	for _, x := range xs {
		c.Knots = append(c.Knots, api.Knot{X: x, Y: d.between(-maxY, maxY)})
	}
	return c
}

// steady rolls a valid curve that rises (way 1) or falls (way -1) everywhere.
func (d *dice) steady(way, knots, maxX, step, maxErr int) api.Curve {
	c := d.curve(knots, maxX, 0, maxErr)
	y := d.between(-20, 20)
	for i := range c.Knots {
		c.Knots[i].Y = y
		y += way * d.between(1, step)
	}
	return c
}

// part rolls a span of a span.
func (d *dice) part(s api.Span) api.Span {
	lo := d.between(s.Lo, s.Hi)
	return span(lo, d.between(lo, s.Hi))
}

func shared(a, b api.Curve) api.Span {
	return span(max(a.Knots[0].X, b.Knots[0].X), min(a.Knots[len(a.Knots)-1].X, b.Knots[len(b.Knots)-1].X))
}

// forPairs gives pairs of curves whose domains mostly meet.
func forPairs(t *testing.T, what func(d *dice, a, b api.Curve)) {
	t.Helper()
	d := &dice{state: 7}
	for range 3000 {
		what(d, d.curve(6, 12, 4, 2), d.curve(6, 12, 4, 2))
	}
	for range 6 {
		what(d, d.curve(40, 2000, 65536, 4000), d.curve(40, 2000, 65536, 4000))
	}
}

// forCurves gives many curves, small and large ones.
func forCurves(t *testing.T, what func(d *dice, c api.Curve)) {
	t.Helper()
	d := &dice{state: 5}
	for range 3000 {
		what(d, d.curve(6, 12, 4, 2))
	}
	for range 6 {
		what(d, d.curve(40, 2000, 65536, 4000))
	}
}

// forSteady gives many curves that rise or fall everywhere.
func forSteady(t *testing.T, what func(d *dice, c api.Curve, way int)) {
	t.Helper()
	d := &dice{state: 3}
	for i := range 3000 {
		way := 1 - 2*(i%2)
		what(d, d.steady(way, 6, 12, 5, 3), way)
	}
	for i := range 6 {
		way := 1 - 2*(i%2)
		what(d, d.steady(way, 40, 2000, 1600, 4000), way)
	}
}

// good fails unless a call had no error.
func good(t *testing.T, e api.Errno, about ...any) {
	t.Helper()
	if e != api.OK {
		t.Fatal("error", e, about)
	}
}

func equal[T comparable](t *testing.T, got, want T, about ...any) {
	t.Helper()
	if got != want {
		t.Errorf("got %v, want %v: %v", got, want, about)
	}
}

func sameCurve(t *testing.T, got, want api.Curve, about ...any) {
	t.Helper()
	if got.Err != want.Err || !slices.Equal(got.Knots, want.Knots) {
		t.Errorf("got %v, want %v: %v", got, want, about)
	}
}

// valid fails unless a curve that was returned is a curve.
func valid(t *testing.T, c api.Curve, about ...any) {
	t.Helper()
	equal(t, curve.Check(c), api.OK, c, about)
}
