package flow

import (
	"iter"
	"slices"

	"kentledge/api"
)

// Without returns a trade without some movements.
func Without(t api.Trade, ids []int) (api.Trade, api.Errno) {
	if e := Check(t); e != api.OK {
		return api.Trade{}, e
	}
	return without(t, ids...), api.OK
}

func without(t api.Trade, ids ...int) api.Trade {
	rest := api.Trade{Holders: slices.Clone(t.Holders)}
	for _, m := range t.Moves {
		if !slices.Contains(ids, m.ID) {
			rest.Moves = append(rest.Moves, m)
		}
	}
	return rest
}

// Suspects returns the movements without each of which there is a course.
func Suspects(t api.Trade) ([]int, api.Errno) {
	if e := Check(t); e != api.OK {
		return nil, e
	}
	if hasCourse(t) {
		return nil, api.OK
	}
	var ids []int
	for _, m := range t.Moves {
		if hasCourse(without(t, m.ID)) {
			ids = append(ids, m.ID)
		}
	}
	slices.Sort(ids)
	return ids, api.OK
}

// Fewest returns as few movements as possible without which there is a course.
func Fewest(t api.Trade) ([]int, api.Errno) {
	if e := Check(t); e != api.OK {
		return nil, e
	}
	if len(t.Moves) > api.MaxWithdrawn {
		return nil, api.ErrLimit
	}
	var ids []int
	for _, m := range t.Moves {
		ids = append(ids, m.ID)
	}
	slices.Sort(ids)
	for few := range len(ids) + 1 {
		for choice := range choices(ids, few) {
			if hasCourse(without(t, choice...)) {
				return choice, api.OK
			}
		}
	}
	return nil, api.ErrNone
}

// choices yields all choices of so many IDs of a list in increasing order, the least choice first.
func choices(ids []int, many int) iter.Seq[[]int] {
	return func(yield func([]int) bool) { choose(nil, ids, many, yield) }
}

// choose yields what was chosen, with each choice of so many of the rest behind it, until no more are wanted; then it returns false.
func choose(chosen, rest []int, many int, yield func([]int) bool) bool {
	if many == 0 {
		return yield(chosen)
	}
	kept := len(chosen)
	for i, id := range rest {
		longer := append(chosen[:kept:kept], id) // new memory: a choice stays when the next one grows
		if !choose(longer, rest[i+1:], many-1, yield) {
			return false
		}
	}
	return true
}

// Rests returns the movements without each of which something can be in a wider span.
func Rests(t api.Trade, x api.At) ([]int, api.Errno) {
	n, i, e := settledAt(t, x)
	if e != api.OK {
		return nil, e
	}
	all := n.limits(i)
	var ids []int
	for _, m := range t.Moves {
		if x == (api.At{Kind: api.AtMass, ID: m.ID}) {
			continue
		}
		rest, j, e := settledAt(without(t, m.ID), x)
		if e != api.OK || rest.limits(j) != all {
			ids = append(ids, m.ID)
		}
	}
	slices.Sort(ids)
	return ids, api.OK
}
