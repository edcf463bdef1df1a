package survey

import (
	"slices"

	"kentledge/api"
	"kentledge/curve"
	"kentledge/hull"
)

// timesMass is how many times her mass the volume of a ship, in scores, times the density of the water is: that of the tables is 1000.
const timesMass = 1000 / api.Score

// weighing returns a survey of a ship as a reading. Its errors are those of all functions that are given a ship and a survey.
func weighing(s api.Ship, b api.Bulbs, x api.Survey) (reading, api.Errno) {
	if e := hull.Check(s); e != api.OK {
		return reading{}, e
	}
	return read(b, x)
}

// volumes returns the volumes by a ship's table, and whether there is one.
func (r reading) volumes(mean api.Curve) (api.Range, bool) {
	low, high, found := r.ends()
	first, last := mean.Knots[0], mean.Knots[len(mean.Knots)-1]
	lo := max(low.sixteen()-16*mean.Err, 16*first.Y)
	hi := min(high.sixteen()+16*mean.Err, 16*last.Y)
	if !found || lo > hi {
		return api.Range{}, false
	}
	return api.Range{Lo: volumeAt(mean, lo), Hi: volumeAt(mean, hi)}, true
}

// volumeAt returns where a curve that rises everywhere has a value, in sixteenths; it has it. (curve.Inverse knows integers only.)
func volumeAt(mean api.Curve, sixteenths int) api.Frac {
	at := slices.IndexFunc(mean.Knots, func(k api.Knot) bool { return sixteenths <= 16*k.Y })
	q := mean.Knots[at]
	if at == 0 {
		return api.Frac{Num: q.X, Den: 1}
	}
	p := mean.Knots[at-1]
	den := 16 * (q.Y - p.Y)
	x, _ := curve.Lowest(p.X*den+(sixteenths-16*p.Y)*(q.X-p.X), den)
	return x
}

// displacements returns the masses that a ship can have at all.
func displacements(s api.Ship) api.Span {
	all := api.Span{Lo: s.Light, Hi: s.Light}
	for _, h := range s.Holds {
		all.Hi += h.Room
	}
	return all
}

// masses returns the masses that are possible; it is no span if there is none.
func (r reading) masses(s api.Ship) api.Span {
	v, found := r.volumes(s.Mean)
	if !found {
		return api.Span{Lo: 1, Hi: 0}
	}
	return common(displacements(s), api.Span{
		Lo: ceiling(v.Lo.Num*r.density.Lo, v.Lo.Den*timesMass),
		Hi: v.Hi.Num * r.density.Hi / (v.Hi.Den * timesMass),
	})
}

// ceiling returns the least integer that is at least num / den, neither of which is less than 0.
func ceiling(num, den int) int { return (num + den - 1) / den }

// Volumes returns the volumes that a ship can have in the water, in scores.
func Volumes(s api.Ship, b api.Bulbs, x api.Survey) (api.Range, api.Errno) {
	r, e := weighing(s, b, x)
	if e != api.OK {
		return api.Range{}, e
	}
	v, found := r.volumes(s.Mean)
	if !found {
		return api.Range{}, api.ErrClash
	}
	return v, api.OK
}

// Mass returns the masses that a ship can have.
func Mass(s api.Ship, b api.Bulbs, x api.Survey) (api.Span, api.Errno) {
	r, e := weighing(s, b, x)
	if e != api.OK {
		return api.Span{}, e
	}
	return orClash(r.masses(s))
}

// Possible reports whether a ship can have a mass.
func Possible(s api.Ship, b api.Bulbs, x api.Survey, mass int) (bool, api.Errno) {
	r, e := weighing(s, b, x)
	if e != api.OK {
		return false, e
	}
	m := r.masses(s)
	return within(mass, m.Lo, m.Hi), api.OK
}

// Best returns the mark whose exact draught would help most.
func Best(s api.Ship, b api.Bulbs, x api.Survey) (int, int, api.Errno) {
	r, e := weighing(s, b, x)
	if e != api.OK {
		return 0, 0, e
	}
	if !isSpan(r.masses(s)) {
		return 0, 0, api.ErrClash
	}
	best, least := 0, r.use(s, 0)
	for mark := 1; mark < len(r.Marks); mark++ {
		if use := r.use(s, mark); use < least {
			best, least = mark, use
		}
	}
	return best, least, api.OK
}

// use returns how many masses are possible at most, once the draught at a mark is known.
func (r reading) use(s api.Ship, mark int) int {
	most := 0
	p := r.Marks[mark]
	for n := p.Lo; n <= p.Hi; n++ {
		r.Marks[mark] = api.Span{Lo: n, Hi: n} // of this copy alone
		m := r.masses(s)
		most = max(most, m.Hi-m.Lo+1)
	}
	return most
}
