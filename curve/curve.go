// Package curve is layer 1: functions that are straight between points, exactly (shared/doc/01-curve.md).
package curve

import "kentledge/api"

// Check returns the error of a curve.
func Check(c api.Curve) api.Errno {
	if len(c.Knots) > api.MaxKnots {
		return api.ErrLimit
	}
	if len(c.Knots) == 0 || c.Err < 0 || c.Err > api.MaxErr {
		return api.ErrArg
	}
	before := -1
	for _, k := range c.Knots {
		if k.X <= before || k.X > api.MaxX || !within(k.Y, api.MaxY) {
			return api.ErrArg
		}
		before = k.X
	}
	return api.OK
}

// Domain returns the span of X on which a curve is known.
func Domain(c api.Curve) (api.Span, api.Errno) {
	if e := Check(c); e != api.OK {
		return api.Span{}, e
	}
	return domain(c), api.OK
}

func domain(c api.Curve) api.Span {
	return api.Span{Lo: c.Knots[0].X, Hi: c.Knots[len(c.Knots)-1].X}
}

func isSpan(s api.Span) bool { return s.Lo <= s.Hi }

// covers reports whether a curve is known on all of a span.
func covers(c api.Curve, s api.Span) bool {
	d := domain(c)
	return d.Lo <= s.Lo && s.Hi <= d.Hi
}

// check returns the error of the first curve that has one.
func check(l ...api.Curve) api.Errno {
	for _, c := range l {
		if e := Check(c); e != api.OK {
			return e
		}
	}
	return api.OK
}

// checkSheaf is check for a list, whose length is bounded.
func checkSheaf(l []api.Curve) api.Errno {
	if len(l) > api.MaxSheaf {
		return api.ErrLimit
	}
	return check(l...)
}

// checkAt returns ErrRange unless valid curves all cover an x.
func checkAt(x int, l ...api.Curve) api.Errno {
	return checkOn(api.Span{Lo: x, Hi: x}, l...)
}

// checkOn returns the error of a span on which valid curves are asked for.
func checkOn(s api.Span, l ...api.Curve) api.Errno {
	if !isSpan(s) {
		return api.ErrArg
	}
	for _, c := range l {
		if !covers(c, s) {
			return api.ErrRange
		}
	}
	return api.OK
}
