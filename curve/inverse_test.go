package curve_test

import (
	"math/big"
	"testing"

	"kentledge/api"
	"kentledge/curve"
)

// P1.4
func TestRising(t *testing.T) {
	cases := []struct {
		c    api.Curve
		want int
	}{
		{exampleC(), 1},
		{exampleD(), 0},
		{curveOf(0, 4, -4), 1},
		{curveOf(0, 0, 5, 1, 4), -1},
		{curveOf(0, 0, 5, 1, 4, 9, -7), -1},
		{curveOf(0, 0, 5, 1, 4, 9, 4), 0},
		{curveOf(0, 0, 4, 1, 4, 9, 5), 0},
		{curveOf(0, 0, 4, 1, 5, 9, 4), 0},
		{curveOf(0, 0, 4, 1, 3, 9, 4), 0},
		{curveOf(0, 0, -1, 1, 0, 9, 1, 10, api.MaxY), 1},
	}
	for _, c := range cases {
		n, e := curve.Rising(c.c)
		equal(t, n, c.want, c.c)
		equal(t, e, api.OK, c.c)
	}
}

// P1.4
func TestSteepest(t *testing.T) {
	cases := []struct {
		c     api.Curve
		piece int
		slope api.Frac
		e     api.Errno
	}{
		{exampleC(), 1, frac(2, 1), api.OK},
		{exampleD(), 0, frac(0, 1), api.OK},
		{curveOf(0, 0, 0, 2, 3, 4, 4, 6, 7, 10, 13), 0, frac(3, 2), api.OK},
		{curveOf(0, 0, 0, 2, 1, 8, 10, 12, 16), 1, frac(3, 2), api.OK},
		{curveOf(0, 0, 9, 2, 1, 8, -10, 12, -17), 2, frac(-7, 4), api.OK},
		{curveOf(0, 0, 0, 2000, -1), 0, frac(-1, 2000), api.OK},
		{curveOf(0, 0, -api.MaxY, 1, api.MaxY, 2, -api.MaxY), 0, frac(2*api.MaxY, 1), api.OK},
		{curveOf(0, 3, 3), 0, api.Frac{}, api.ErrNone},
	}
	for _, c := range cases {
		i, s, e := curve.Steepest(c.c)
		equal(t, i, c.piece, c.c)
		equal(t, s, c.slope, c.c)
		equal(t, e, c.e, c.c)
	}
	forCurves(t, func(d *dice, c api.Curve) {
		var most *big.Rat
		at := 0
		for i := 1; i < len(c.Knots); i++ {
			p, q := c.Knots[i-1], c.Knots[i]
			s := big.NewRat(int64(q.Y-p.Y), int64(q.X-p.X))
			if most == nil || s.Cmp(most) > 0 {
				most, at = s, i-1
			}
		}
		i, s, e := curve.Steepest(c)
		if most == nil {
			equal(t, e, api.ErrNone, c)
			return
		}
		equal(t, i, at, c)
		equal(t, s, fracOf(most), c)
		equal(t, e, api.OK, c)
	})
}

// P1.5
func TestInverse(t *testing.T) {
	falls := curveOf(9, 4, 10, 7, 4, 27, 1)
	single := curveOf(9, 4, 10)
	dip := curveOf(0, 0, 0, 5, -5, 9, 9)
	cases := []struct {
		c    api.Curve
		y    int
		want api.Frac
		e    api.Errno
	}{
		{exampleC(), 2, frac(4, 1), api.OK},
		{exampleC(), 11, frac(13, 1), api.OK},
		{exampleC(), 5, frac(10, 1), api.OK},
		{exampleC(), 6, frac(21, 2), api.OK},
		{exampleC(), 0, frac(0, 1), api.OK},
		{exampleC(), 25, frac(20, 1), api.OK},
		{exampleC(), 26, api.Frac{}, api.ErrRange},
		{exampleC(), -1, api.Frac{}, api.ErrRange},
		{exampleC(), minInt, api.Frac{}, api.ErrRange},
		{exampleC(), maxInt, api.Frac{}, api.ErrRange},
		{falls, 10, frac(4, 1), api.OK},
		{falls, 9, frac(9, 2), api.OK},
		{falls, 3, frac(41, 3), api.OK},
		{falls, 4, frac(7, 1), api.OK},
		{falls, 1, frac(27, 1), api.OK},
		{falls, 0, api.Frac{}, api.ErrRange},
		{falls, 11, api.Frac{}, api.ErrRange},
		{single, 10, frac(4, 1), api.OK},
		{single, 9, api.Frac{}, api.ErrRange},
		{single, 11, api.Frac{}, api.ErrRange},
		{exampleD(), 10, api.Frac{}, api.ErrState},
		{exampleD(), 11, api.Frac{}, api.ErrState},
		{dip, 5, api.Frac{}, api.ErrState},
		{dip, maxInt, api.Frac{}, api.ErrState},
		{curveOf(0, 0, -api.MaxY, 1999, api.MaxY-1), 0, frac(1999*api.MaxY, 2*api.MaxY-1), api.OK},
	}
	for _, c := range cases {
		x, e := curve.Inverse(c.c, c.y)
		equal(t, x, c.want, c.c, c.y)
		equal(t, e, c.e, c.c, c.y)
	}
}

// P1.6
func TestReach(t *testing.T) {
	falls := curveOf(1, 4, 10, 7, 4, 27, 1)
	single := curveOf(2, 4, 10)
	cases := []struct {
		c    api.Curve
		s    api.Span
		want api.Range
		e    api.Errno
	}{
		{exampleC(), span(4, 6), rangeOf(frac(4, 1), frac(23, 2)), api.OK},
		{exampleC(), span(-5, -2), rangeOf(frac(0, 1), frac(0, 1)), api.OK},
		{exampleC(), span(-5, -3), api.Range{}, api.ErrNone},
		{exampleC(), span(27, 30), rangeOf(frac(20, 1), frac(20, 1)), api.OK},
		{exampleC(), span(28, 30), api.Range{}, api.ErrNone},
		{exampleC(), span(-2*api.MaxY, 2*api.MaxY), rangeOf(frac(0, 1), frac(20, 1)), api.OK},
		{exampleC(), span(7, 7), rangeOf(frac(10, 1), frac(12, 1)), api.OK},
		{falls, span(3, 6), rangeOf(frac(11, 2), frac(61, 3)), api.OK},
		{falls, span(11, 12), rangeOf(frac(4, 1), frac(4, 1)), api.OK},
		{falls, span(-9, 0), rangeOf(frac(27, 1), frac(27, 1)), api.OK},
		{falls, span(12, 12), api.Range{}, api.ErrNone},
		{falls, span(-9, -1), api.Range{}, api.ErrNone},
		{single, span(12, 12), rangeOf(frac(4, 1), frac(4, 1)), api.OK},
		{single, span(0, 8), rangeOf(frac(4, 1), frac(4, 1)), api.OK},
		{single, span(0, 7), api.Range{}, api.ErrNone},
		{single, span(13, 20), api.Range{}, api.ErrNone},
		{exampleC(), span(6, 4), api.Range{}, api.ErrArg},
		{exampleC(), span(-2*api.MaxY-1, 4), api.Range{}, api.ErrArg},
		{exampleC(), span(4, 2*api.MaxY+1), api.Range{}, api.ErrArg},
		{exampleC(), span(minInt, maxInt), api.Range{}, api.ErrArg},
		{exampleC(), span(2*api.MaxY+1, 2*api.MaxY+2), api.Range{}, api.ErrArg},
		{exampleD(), span(9, 11), api.Range{}, api.ErrState},
		{exampleD(), span(11, 9), api.Range{}, api.ErrArg},
		{exampleD(), span(500, 600), api.Range{}, api.ErrState},
	}
	for _, c := range cases {
		r, e := curve.Reach(c.c, c.s)
		equal(t, r, c.want, c.c, c.s)
		equal(t, e, c.e, c.c, c.s)
	}
}

// P1.6: both ends of Reach are the outermost x: each is an end of the domain, or the true values there meet the span in one number.
func TestReachEnds(t *testing.T) {
	meets := 0
	forSteady(t, func(d *dice, c api.Curve, way int) {
		lo := d.between(-30, 30)
		s := span(lo, lo+d.between(0, 8))
		first, last := c.Knots[0], c.Knots[len(c.Knots)-1]
		r, e := curve.Reach(c, s)
		if max(first.Y, last.Y)+c.Err < s.Lo || s.Hi < min(first.Y, last.Y)-c.Err {
			equal(t, e, api.ErrNone, c, s)
			return
		}
		good(t, e, c, s)
		meets++
		enters, leaves := rat(s.Lo-c.Err), rat(s.Hi+c.Err)
		if way < 0 {
			enters, leaves = leaves, enters
		}
		if at := ratOf(r.Lo); at.Cmp(rat(first.X)) != 0 && valueAt(t, c, at).Cmp(enters) != 0 {
			t.Error("the least x", c, s, r)
		}
		if at := ratOf(r.Hi); at.Cmp(rat(last.X)) != 0 && valueAt(t, c, at).Cmp(leaves) != 0 {
			t.Error("the greatest x", c, s, r)
		}
	})
	if meets < 500 {
		t.Error("too few spans are reached", meets)
	}
}
