package survey

import (
	"cmp"
	"iter"
	"slices"

	"kentledge/api"
	"kentledge/hull"
)

// checkLists returns the first error of a ship, of hydrometers, and of lists of surveys.
func checkLists(s api.Ship, b api.Bulbs, lists ...[]api.Survey) api.Errno {
	if e := hull.Check(s); e != api.OK {
		return e
	}
	if e := CheckBulbs(b); e != api.OK {
		return e
	}
	for _, l := range lists {
		if e := checkList(b, l); e != api.OK {
			return e
		}
	}
	return api.OK
}

func checkList(b api.Bulbs, l []api.Survey) api.Errno {
	if len(l) == 0 {
		return api.ErrNone
	}
	if len(l) > api.MaxSurveys {
		return api.ErrLimit
	}
	for i, x := range l {
		if e := Check(b, x); e != api.OK {
			return e
		}
		if _, twice := find(l[:i], func(y api.Survey) bool { return y.ID == x.ID }); twice {
			return api.ErrTwice
		}
	}
	return api.OK
}

// weighed is a survey, by its ID, and the masses that are possible by it; they are no span if there is none.
type weighed struct {
	id   int
	mass api.Span
}

// weigh yields, in order, what surveys say that were checked.
func weigh(s api.Ship, b api.Bulbs, l []api.Survey) iter.Seq[weighed] {
	return func(yield func(weighed) bool) {
		for _, x := range l {
			r, _ := read(b, x)
			if !yield(weighed{id: x.ID, mass: r.masses(s)}) {
				return
			}
		}
	}
}

// together returns the masses that are possible by all of some surveys; it is no span if there is none. By no survey at all each mass is possible.
func together(s api.Ship, b api.Bulbs, l []api.Survey) api.Span {
	all := displacements(s)
	for w := range weigh(s, b, l) {
		all = common(all, w.mass)
	}
	return all
}

// Together returns the masses that all of some surveys of the same load allow.
func Together(s api.Ship, b api.Bulbs, l []api.Survey) (api.Span, api.Errno) {
	if e := checkLists(s, b, l); e != api.OK {
		return api.Span{}, e
	}
	return orClash(together(s, b, l))
}

// Rests returns the surveys from which the least and the greatest mass come.
func Rests(s api.Ship, b api.Bulbs, l []api.Survey) (int, int, api.Errno) {
	all, e := Together(s, b, l)
	if e != api.OK {
		return 0, 0, e
	}
	list := slices.Collect(weigh(s, b, l))
	low, _ := find(list, func(w weighed) bool { return w.mass.Lo == all.Lo })
	high, _ := find(list, func(w weighed) bool { return w.mass.Hi == all.Hi })
	return low.id, high.id, api.OK
}

// Core returns surveys that contradict each other, none of which can be left out.
func Core(s api.Ship, b api.Bulbs, l []api.Survey) ([]int, api.Errno) {
	if e := checkLists(s, b, l); e != api.OK {
		return nil, e
	}
	if isSpan(together(s, b, l)) {
		return nil, api.ErrNone
	}
	sorted := slices.SortedFunc(weigh(s, b, l), func(v, w weighed) int { return cmp.Compare(v.id, w.id) })
	return core(displacements(s), sorted), api.OK
}

// core goes through surveys that do not agree, and returns those that cannot be left out. The masses of those that were kept so far are all that is to be known of them.
func core(kept api.Span, sorted []weighed) []int {
	var ids []int
search:
	for i, w := range sorted {
		rest := kept
		for _, later := range sorted[i+1:] {
			rest = common(rest, later.mass)
			if !isSpan(rest) {
				continue search // the others contradict each other without it
			}
		}
		ids = append(ids, w.id)
		kept = common(kept, w.mass)
		if !isSpan(kept) {
			break search // those that were kept contradict each other without all that follow
		}
	}
	return ids
}

// Suspects returns the surveys without each of which the others agree.
func Suspects(s api.Ship, b api.Bulbs, l []api.Survey) ([]int, api.Errno) {
	if e := checkLists(s, b, l); e != api.OK {
		return nil, e
	}
	if len(l) == 1 || isSpan(together(s, b, l)) {
		return nil, api.OK
	}
	var ids []int
	for i, x := range l {
		if isSpan(together(s, b, without(l, i))) {
			ids = append(ids, x.ID)
		}
	}
	slices.Sort(ids)
	return ids, api.OK
}

// Taken returns how much less a ship weighs by some surveys than by earlier ones.
func Taken(s api.Ship, b api.Bulbs, before, after []api.Survey) (api.Span, api.Errno) {
	if e := checkLists(s, b, before, after); e != api.OK {
		return api.Span{}, e
	}
	m, n := together(s, b, before), together(s, b, after)
	if !isSpan(m) || !isSpan(n) {
		return api.Span{}, api.ErrClash
	}
	return api.Span{Lo: m.Lo - n.Hi, Hi: m.Hi - n.Lo}, api.OK
}
