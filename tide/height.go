package tide

import (
	"iter"

	"kentledge/api"
)

// Value returns the height of a cycle at a minute.
func Value(c api.Cycle, tick int) (int, api.Errno) {
	if !isCycle(c) || !isMinute(tick) {
		return 0, api.ErrArg
	}
	return value(c, tick), api.OK
}

// value is the same for any integer: a cycle goes on without end.
func value(c api.Cycle, tick int) int { return c.Heights[phase(c, tick)/c.Every] }

// length returns how many minutes pass until a cycle comes again.
func length(c api.Cycle) int { return c.Every * len(c.Heights) }

// phase returns how many minutes of its length a cycle has behind it.
func phase(c api.Cycle, tick int) int {
	n := length(c)
	p := (tick - c.Begin) % n
	if p < 0 { // ahead of Begin, the remainder of Go is negative
		p += n
	}
	return p
}

// Height returns the height of a water at a minute.
func Height(w api.Water, tick int) (int, api.Errno) {
	if e := Check(w); e != api.OK {
		return 0, e
	}
	if !isMinute(tick) {
		return 0, api.ErrArg
	}
	return w.Level + bare(w, tick), api.OK
}

// bare returns the height of a water without its level.
func bare(w api.Water, tick int) int {
	sum := correction(w, tick)
	for _, c := range w.Cycles {
		sum += value(c, tick)
	}
	return sum
}

func correction(w api.Water, tick int) int {
	day := dayOf(tick)
	for _, s := range w.Shifts {
		if s.From <= day && day <= s.To {
			return s.Add
		}
	}
	return 0
}

// addends are what the height of a water without its level is the sum of: the correction, then the values of the cycles, then zeros.
type addends [1 + api.MaxCycles]int

func (a addends) sum() int {
	total := 0
	for _, n := range a {
		total += n
	}
	return total
}

// moments yields the minutes of a span, and what is added up in each of them.
func moments(w api.Water, s api.Span) iter.Seq2[int, addends] {
	return func(yield func(int, addends) bool) {
		step := steppers(w, s.Lo)
		for tick := s.Lo; tick <= s.Hi; tick++ {
			a := addends{correction(w, tick)}
			for i, c := range w.Cycles {
				a[i+1] = step[c.ID]()
			}
			if !yield(tick, a) {
				return
			}
		}
	}
}

// steppers returns a stepper for each cycle of a water, by the ID of the cycle.
func steppers(w api.Water, from int) map[int]func() int {
	step := map[int]func() int{}
	for _, c := range w.Cycles {
		step[c.ID] = stepper(c, from)
	}
	return step
}

// stepper returns a closure that returns the values of a cycle minute by minute: it divides just once, for the first one.
func stepper(c api.Cycle, from int) func() int {
	p := phase(c, from)
	k, left := p/c.Every, c.Every-p%c.Every
	return func() int {
		v := c.Heights[k]
		left--
		if left == 0 {
			k, left = (k+1)%len(c.Heights), c.Every
		}
		return v
	}
}

// heights yields the minutes of a span, and the height of a water in each of them.
func heights(w api.Water, s api.Span) iter.Seq2[int, int] {
	return func(yield func(int, int) bool) {
		for tick, a := range moments(w, s) {
			if !yield(tick, w.Level+a.sum()) {
				return
			}
		}
	}
}
