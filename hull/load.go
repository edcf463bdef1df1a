package hull

import (
	"slices"

	"kentledge/api"
)

// cargo is a loading as an array: the masses of the holds, then zeros. Other than a list it is copied and compared as a whole.
type cargo [api.MaxHolds]int

func cargoOf(x []int) cargo {
	var c cargo
	copy(c[:], x)
	return c
}

// list returns a cargo as the loading of a ship with so many holds.
func (c cargo) list(holds int) []int { return slices.Clone(c[:holds]) }

func (c cargo) total() int {
	sum := 0
	for _, m := range c {
		sum += m
	}
	return sum
}

// CheckLoad returns the first error of a load.
func CheckLoad(s api.Ship, l api.Load) api.Errno {
	if e := Check(s); e != api.OK {
		return e
	}
	if !areSpans(s, l.Holds) || !isSpanTo(l.All, api.MaxMass) {
		return api.ErrArg
	}
	if l.All.Hi-l.All.Lo+1 > api.MaxTotals {
		return api.ErrLimit
	}
	if !isSpan(totals(l)) {
		return api.ErrClash
	}
	return api.OK
}

// areSpans reports whether there is a span of masses for each hold, none of them beyond its room.
func areSpans(s api.Ship, spans []api.Span) bool {
	if len(spans) != len(s.Holds) {
		return false
	}
	for i, h := range s.Holds {
		if !isSpanTo(spans[i], h.Room) {
			return false
		}
	}
	return true
}

// together returns the sum of the least, and that of the greatest numbers of some spans.
func together(spans []api.Span) api.Span {
	var sum api.Span
	for _, p := range spans {
		sum.Lo += p.Lo
		sum.Hi += p.Hi
	}
	return sum
}

// totals returns the least and the greatest total of a loading of a load; it is no span if there is no loading.
func totals(l api.Load) api.Span {
	sum := together(l.Holds)
	return api.Span{Lo: max(sum.Lo, l.All.Lo), Hi: min(sum.Hi, l.All.Hi)}
}

// Fits reports whether a loading is one of a load.
func Fits(s api.Ship, l api.Load, x []int) bool {
	return CheckLoad(s, l) == api.OK && fits(l, x)
}

func fits(l api.Load, x []int) bool {
	if len(x) != len(l.Holds) {
		return false
	}
	for i, p := range l.Holds {
		if !within(x[i], p.Lo, p.Hi) {
			return false
		}
	}
	return within(cargoOf(x).total(), l.All.Lo, l.All.Hi)
}

// Narrow returns the load with spans as narrow as its loadings allow.
func Narrow(s api.Ship, l api.Load) (api.Load, api.Errno) {
	if e := CheckLoad(s, l); e != api.OK {
		return api.Load{}, e
	}
	sum := together(l.Holds)
	n := api.Load{All: totals(l)}
	for _, p := range l.Holds {
		others := api.Span{Lo: sum.Lo - p.Lo, Hi: sum.Hi - p.Hi}
		n.Holds = append(n.Holds, api.Span{Lo: max(p.Lo, l.All.Lo-others.Hi), Hi: min(p.Hi, l.All.Hi-others.Lo)})
	}
	return n, api.OK
}

// Behind returns the load behind a mass was taken out of each hold, as spans.
func Behind(s api.Ship, l api.Load, out []api.Span) (api.Load, api.Errno) {
	if e := CheckLoad(s, l); e != api.OK {
		return api.Load{}, e
	}
	if !areSpans(s, out) {
		return api.Load{}, api.ErrArg
	}
	var b api.Load
	for i, p := range l.Holds {
		if out[i].Lo > p.Hi {
			return api.Load{}, api.ErrArg
		}
		b.Holds = append(b.Holds, less(p, out[i]))
	}
	sum := together(out)
	if sum.Lo > l.All.Hi {
		return api.Load{}, api.ErrArg
	}
	b.All = less(l.All, sum)
	if e := CheckLoad(s, b); e != api.OK {
		return api.Load{}, e
	}
	return b, api.OK
}

// less returns what can be left of a mass when another one is taken from it.
func less(from, out api.Span) api.Span {
	return api.Span{Lo: max(from.Lo-out.Hi, 0), Hi: from.Hi - out.Lo}
}
