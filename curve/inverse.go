package curve

import "kentledge/api"

// Rising returns 1 if a curve rises everywhere, -1 if it falls everywhere, and 0 otherwise.
func Rising(c api.Curve) (int, api.Errno) {
	if e := Check(c); e != api.OK {
		return 0, e
	}
	return rising(c), api.OK
}

func rising(c api.Curve) int {
	if _, found := find(c, func(p piece) bool { return p.rise() <= 0 }); !found {
		return 1
	}
	if _, found := find(c, func(p piece) bool { return p.rise() >= 0 }); !found {
		return -1
	}
	return 0
}

// Steepest returns the piece with the greatest slope, and this slope.
func Steepest(c api.Curve) (int, api.Frac, api.Errno) {
	if e := Check(c); e != api.OK {
		return 0, api.Frac{}, e
	}
	var slopes []api.Frac
	for _, p := range pieces(c) {
		slopes = append(slopes, lowest(p.rise(), p.run()))
	}
	if len(slopes) == 0 {
		return 0, api.Frac{}, api.ErrNone
	}
	i := foremost(slopes, isMore)
	return i, slopes[i], api.OK
}

// Inverse returns where a curve that rises or falls everywhere has a value.
func Inverse(c api.Curve, y int) (api.Frac, api.Errno) {
	if e := Check(c); e != api.OK {
		return api.Frac{}, e
	}
	if rising(c) == 0 {
		return api.Frac{}, api.ErrState
	}
	if h := heights(c); y < h[low] || h[high] < y {
		return api.Frac{}, api.ErrRange
	}
	return inverse(c, y), api.OK
}

// heights returns the least and the greatest value of a curve that rises or falls everywhere.
func heights(c api.Curve) [2]int {
	first, last := c.Knots[0].Y, c.Knots[len(c.Knots)-1].Y
	return [2]int{low: min(first, last), high: max(first, last)}
}

// inverse returns the x of a value that a curve, which rises or falls everywhere, has.
func inverse(c api.Curve, y int) api.Frac {
	p, found := find(c, func(p piece) bool { return min(p.from.Y, p.to.Y) <= y && y <= max(p.from.Y, p.to.Y) })
	if !found {
		return lowest(c.Knots[0].X, 1)
	}
	return lowest(p.from.X*p.rise()+(y-p.from.Y)*p.run(), p.rise())
}

// Reach returns where the true value can lie in a span.
func Reach(c api.Curve, s api.Span) (api.Range, api.Errno) {
	if e := Check(c); e != api.OK {
		return api.Range{}, e
	}
	if !isSpan(s) || !within(s.Lo, 2*api.MaxY) || !within(s.Hi, 2*api.MaxY) {
		return api.Range{}, api.ErrArg
	}
	way := rising(c)
	if way == 0 {
		return api.Range{}, api.ErrState
	}
	h := heights(c)
	h[low], h[high] = max(h[low], s.Lo-c.Err), min(h[high], s.Hi+c.Err)
	if h[low] > h[high] {
		return api.Range{}, api.ErrNone
	}
	at := ends{low: inverse(c, h[low]), high: inverse(c, h[high])}
	if way < 0 {
		at[low], at[high] = at[high], at[low]
	}
	return at.asRange(), api.OK
}
