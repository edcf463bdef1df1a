package hull

import (
	"slices"

	"kentledge/api"
)

// Order returns the fewest steps from a loading to another one, so that she is steady all the time.
func Order(s api.Ship, from, to []int, step int) ([]api.Drop, api.Errno) {
	if e := checkLoadings(s, from, to); e != api.OK {
		return nil, e
	}
	if e := checkSteps(from, to, step); e != api.OK {
		return nil, e
	}
	begin, end := cargoOf(from), cargoOf(to)
	if !isSteady(s, begin) || !isSteady(s, end) {
		return nil, api.ErrState
	}
	met := search(s, begin, end, step)
	if _, found := met[end]; !found {
		return nil, api.ErrNone
	}
	return wayBack(met, begin, end), api.OK
}

// checkSteps returns the error of what is to be taken out of holds, step by step.
func checkSteps(from, to []int, step int) api.Errno {
	if !within(step, 1, api.MaxMass) {
		return api.ErrArg
	}
	for i := range from {
		if to[i] > from[i] {
			return api.ErrArg
		}
	}
	loadings, steps := 1, 0
	for i := range from {
		n := ceiling(from[i]-to[i], step)
		loadings *= 1 + n
		steps += n
		if loadings > api.MaxStates || steps > api.MaxDrops {
			return api.ErrLimit
		}
	}
	return api.OK
}

// search goes from a loading to all that can be reached with the ship steady, until it meets the end. It returns the step behind which each one was met.
func search(s api.Ship, begin, end cargo, step int) map[cargo]api.Drop {
	met := map[cargo]api.Drop{begin: {}}
	open := []cargo{begin}
search:
	for len(open) > 0 {
		x := open[0]
		open = open[1:]
		for i := range s.Holds {
			drop := api.Drop{Hold: i, Mass: min(step, x[i]-end[i])}
			y := x
			y[i] -= drop.Mass
			if _, again := met[y]; again || !isSteady(s, y) {
				continue
			}
			met[y] = drop
			if y == end {
				break search
			}
			open = append(open, y)
		}
	}
	return met
}

// wayBack returns, in order, the steps that led to the end. All ways to it have as many steps, since each hold needs its own.
func wayBack(met map[cargo]api.Drop, begin, end cargo) []api.Drop {
	var drops []api.Drop
	for x := end; x != begin; {
		d := met[x]
		drops = append(drops, d)
		x[d.Hold] += d.Mass
	}
	slices.Reverse(drops)
	return drops
}

// CheckOrder returns the loading behind some steps, and the first step behind which she is not steady.
func CheckOrder(s api.Ship, from []int, drops []api.Drop) ([]int, int, api.Errno) {
	if e := checkLoadings(s, from); e != api.OK {
		return nil, 0, e
	}
	if len(drops) > api.MaxDrops {
		return nil, 0, api.ErrLimit
	}
	x := cargoOf(from)
	first := -1
	for i, d := range drops {
		if !within(d.Hold, 0, len(s.Holds)-1) || !within(d.Mass, 1, x[d.Hold]) {
			return nil, 0, api.ErrArg
		}
		x[d.Hold] -= d.Mass
		if first < 0 && !isSteady(s, x) {
			first = i
		}
	}
	return x.list(len(s.Holds)), first, api.OK
}
