package curve

import "kentledge/api"

// The ends of what an array holds as a range.
const (
	low  = 0
	high = 1
)

// ends are the least and the greatest of some numbers.
type ends [2]api.Frac

func (e ends) asRange() api.Range { return api.Range{Lo: e[low], Hi: e[high]} }

// Value returns the value of a curve.
func Value(c api.Curve, x int) (api.Frac, api.Errno) {
	if e := Check(c); e != api.OK {
		return api.Frac{}, e
	}
	if e := checkAt(x, c); e != api.OK {
		return api.Frac{}, e
	}
	return value(c, x), api.OK
}

func value(c api.Curve, x int) api.Frac {
	return lineOver(c, api.Span{Lo: x, Hi: x}).at(x)
}

// Values returns what the true value can be.
func Values(c api.Curve, x int) (api.Range, api.Errno) {
	if e := Check(c); e != api.OK {
		return api.Range{}, e
	}
	if e := checkAt(x, c); e != api.OK {
		return api.Range{}, e
	}
	return around(c, x).asRange(), api.OK
}

// around returns the least and the greatest true value.
func around(c api.Curve, x int) ends {
	v := value(c, x)
	return ends{low: plus(v, -c.Err), high: plus(v, c.Err)}
}

// Over returns the least and the greatest value over a span.
func Over(c api.Curve, s api.Span) (api.Peak, api.Errno) {
	if e := Check(c); e != api.OK {
		return api.Peak{}, e
	}
	if e := checkOn(s, c); e != api.OK {
		return api.Peak{}, e
	}
	return over(c, s), api.OK
}

func over(c api.Curve, s api.Span) api.Peak {
	return peak(corners(s, c), func(x int) api.Frac { return value(c, x) })
}

// peak returns what is least and greatest at some x, and the first x of each.
func peak(xs []int, at func(int) api.Frac) api.Peak {
	found := make([]api.Frac, 0, len(xs))
	for _, x := range xs {
		found = append(found, at(x))
	}
	least, most := foremost(found, isLess), foremost(found, isMore)
	return api.Peak{Lo: found[least], Hi: found[most], AtLo: xs[least], AtHi: xs[most]}
}

// CheckOver returns OK if these are the least and the greatest value.
func CheckOver(c api.Curve, s api.Span, p api.Peak) api.Errno {
	if e := Check(c); e != api.OK {
		return e
	}
	if e := checkOn(s, c); e != api.OK {
		return e
	}
	if over(c, s) != p {
		return api.ErrProof
	}
	return api.OK
}
