package curve

import (
	"cmp"
	"slices"

	"kentledge/api"
)

// Apart returns the least and the greatest value of the difference of two curves over a span.
func Apart(a, b api.Curve, s api.Span) (api.Peak, api.Errno) {
	if e := check(a, b); e != api.OK {
		return api.Peak{}, e
	}
	if e := checkOn(s, a, b); e != api.OK {
		return api.Peak{}, e
	}
	return peak(corners(s, a, b), func(x int) api.Frac { return difference(value(a, x), value(b, x)) }), api.OK
}

// Cross returns where two curves are equal, or cross.
func Cross(a, b api.Curve) ([]api.Span, api.Errno) {
	if e := check(a, b); e != api.OK {
		return nil, e
	}
	var l []api.Span
	before := 0
	for t := range stretches(a, b) {
		for x := t.span.Lo; x <= t.span.Hi; x++ {
			sign := cmp.Compare(t.gap(x), 0)
			switch {
			case sign == 0 && before == 0 && len(l) > 0: // l is empty at the first x, before which there is no run
				l[len(l)-1].Hi = x
			case sign == 0:
				l = append(l, api.Span{Lo: x, Hi: x})
			case sign == -before:
				l = append(l, api.Span{Lo: x - 1, Hi: x})
			}
			before = sign
		}
	}
	return l, api.OK
}

// Clash returns the first X at which true values of two curves cannot be equal.
func Clash(a, b api.Curve) (int, bool, api.Errno) {
	if e := check(a, b); e != api.OK {
		return 0, false, e
	}
	first, found := 0, false
search:
	for t := range stretches(a, b) {
		most := (a.Err + b.Err) * t.den()
		for x := t.span.Lo; x <= t.span.Hi; x++ {
			if !within(t.gap(x), most) {
				first, found = x, true
				break search
			}
		}
	}
	return first, found, api.OK
}

// Both returns what the true value can be by all of some curves.
func Both(l []api.Curve, x int) (api.Range, api.Errno) {
	if e := checkSheaf(l); e != api.OK {
		return api.Range{}, e
	}
	if e := checkAt(x, l...); e != api.OK {
		return api.Range{}, e
	}
	if len(l) == 0 {
		return api.Range{}, api.ErrNone
	}
	var all []ends
	for _, c := range l {
		all = append(all, around(c, x))
	}
	narrow := ends{
		low:  all[foremost(all, func(a, b ends) bool { return isMore(a[low], b[low]) })][low],
		high: all[foremost(all, func(a, b ends) bool { return isLess(a[high], b[high]) })][high],
	}
	if isMore(narrow[low], narrow[high]) {
		return api.Range{}, api.ErrClash
	}
	return narrow.asRange(), api.OK
}

// Least returns which of some curves has the least value, and this value.
func Least(l []api.Curve, x int) (int, api.Frac, api.Errno) {
	if e := checkSheaf(l); e != api.OK {
		return 0, api.Frac{}, e
	}
	if e := checkAt(x, l...); e != api.OK {
		return 0, api.Frac{}, e
	}
	if len(l) == 0 {
		return 0, api.Frac{}, api.ErrNone
	}
	var values []api.Frac
	for _, c := range l {
		values = append(values, value(c, x))
	}
	i := foremost(values, isLess)
	return i, values[i], api.OK
}

// Same reports whether two curves are one.
func Same(a, b api.Curve) (bool, api.Errno) {
	if e := check(a, b); e != api.OK {
		return false, e
	}
	return a.Err == b.Err && slices.Equal(bends(a), bends(b)), api.OK
}
