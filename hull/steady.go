package hull

import "kentledge/api"

// bears reports whether a ship is steady with a displacement and a rise.
func bears(s api.Ship, displacement, rise int) bool {
	v := table{s.Meta}.at(displacement)
	return displacement*(v.Num-(s.Meta.Err+s.Least)*v.Den) >= rise*v.Den
}

func isSteady(s api.Ship, x cargo) bool { return bears(s, displacement(s, x), rise(s, x)) }

// Steady reports whether a ship is steady in all loadings, and otherwise returns one in which she is not.
func Steady(s api.Ship, l api.Load) ([]int, bool, api.Errno) {
	if e := CheckLoad(s, l); e != api.OK {
		return nil, false, e
	}
	for x := range richest(l, heights(s)) {
		if !isSteady(s, x) {
			return x.list(len(s.Holds)), false, api.OK
		}
	}
	return nil, true, api.OK
}

// Prove returns prices that show that she is.
func Prove(s api.Ship, l api.Load) ([]api.Part, api.Errno) {
	_, steady, e := Steady(s, l)
	if e != api.OK {
		return nil, e
	}
	if !steady {
		return nil, api.ErrState
	}
	var parts []api.Part
	for x, price := range richest(l, heights(s)) {
		t, last := x.total(), len(parts)-1
		if last < 0 || parts[last].Price != price {
			parts = append(parts, api.Part{Totals: api.Span{Lo: t, Hi: t}, Price: price})
			continue
		}
		parts[last].Totals.Hi = t
	}
	return parts, api.OK
}

// CheckSteady returns OK if prices show that she is.
func CheckSteady(s api.Ship, l api.Load, parts []api.Part) api.Errno {
	if e := CheckLoad(s, l); e != api.OK {
		return e
	}
	if len(parts) > api.MaxTotals {
		return api.ErrLimit
	}
	if !covers(totals(l), parts) {
		return api.ErrProof
	}
	for _, p := range parts {
		if !isWeight(p.Price) || !shows(s, l, p) {
			return api.ErrProof
		}
	}
	return api.OK
}

// covers reports whether the totals of parts follow each other without gaps, over a span.
func covers(all api.Span, parts []api.Part) bool {
	next := all.Lo
	for _, p := range parts {
		if p.Totals.Lo != next || !isSpan(p.Totals) || p.Totals.Hi > all.Hi {
			return false
		}
		next = p.Totals.Hi + 1
	}
	return next == all.Hi+1
}

// shows reports whether the price of a part bounds the rise so that the ship is steady with each of its totals.
func shows(s api.Ship, l api.Load, p api.Part) bool {
	form := heights(s)
	for t := p.Totals.Lo; t <= p.Totals.Hi; t++ {
		most := s.Light*s.Height + bound(l.Holds, api.Span{Lo: t, Hi: t}, form, p.Price)
		if !bears(s, s.Light+t, most) {
			return false
		}
	}
	return true
}
