package tide

import (
	"cmp"
	"iter"
	"slices"

	"kentledge/api"
)

// Highest returns the greatest height in a span of minutes, and the first minute that has it.
func Highest(w api.Water, s api.Span) (int, int, api.Errno) {
	return foremost(w, s, func(a, b api.Stand) int { return cmp.Compare(b.Height, a.Height) })
}

// Lowest returns the least height in a span of minutes, and the first minute that has it.
func Lowest(w api.Water, s api.Span) (int, int, api.Errno) {
	return foremost(w, s, func(a, b api.Stand) int { return cmp.Compare(a.Height, b.Height) })
}

// foremost returns the height and the first minute of the first stand ahead of which, by an order, no other one comes.
func foremost(w api.Water, s api.Span, order func(a, b api.Stand) int) (int, int, api.Errno) {
	l, e := Stands(w, s)
	if e != api.OK {
		return 0, 0, e
	}
	first := slices.MinFunc(l, order)
	return first.Height, first.Span.Lo, api.OK
}

// Stands returns the stands of a span of minutes.
func Stands(w api.Water, s api.Span) ([]api.Stand, api.Errno) {
	if e := checkMinutes(w, s); e != api.OK {
		return nil, e
	}
	return slices.Collect(stands(w, s)), api.OK
}

// stands yields the stands of a span of minutes, in order.
func stands(w api.Water, s api.Span) iter.Seq[api.Stand] {
	return func(yield func(api.Stand) bool) {
		var now api.Stand
		for tick, h := range heights(w, s) {
			if tick > s.Lo && h == now.Height {
				now.Span.Hi = tick
				continue
			}
			if tick > s.Lo && !yield(now) {
				return
			}
			now = api.Stand{Span: api.Span{Lo: tick, Hi: tick}, Height: h}
		}
		yield(now)
	}
}

// HighWaters returns the stands between two lower ones.
func HighWaters(w api.Water, s api.Span) ([]api.Stand, api.Errno) {
	return turns(w, s, func(a, b api.Stand) bool { return a.Height > b.Height })
}

// LowWaters returns the stands between two higher ones.
func LowWaters(w api.Water, s api.Span) ([]api.Stand, api.Errno) {
	return turns(w, s, func(a, b api.Stand) bool { return a.Height < b.Height })
}

// turns returns the stands that go beyond the one before and the one behind them.
func turns(w api.Water, s api.Span, beyond func(a, b api.Stand) bool) ([]api.Stand, api.Errno) {
	all, e := Stands(w, s)
	if e != api.OK {
		return nil, e
	}
	var l []api.Stand
	for i := 1; i < len(all)-1; i++ {
		if beyond(all[i], all[i-1]) && beyond(all[i], all[i+1]) {
			l = append(l, all[i])
		}
	}
	return l, api.OK
}
