package tide

import (
	"slices"

	"kentledge/api"
)

// Shortest returns the cycle with the fewest heights that has the same height at all minutes.
func Shortest(c api.Cycle) (api.Cycle, api.Errno) {
	if !isCycle(c) {
		return api.Cycle{}, api.ErrArg
	}
	n := 1
	for !repeats(c.Heights, n) {
		n++
	}
	c.Heights = slices.Clone(c.Heights[:n])
	return c, api.OK
}

// repeats reports whether a table consists of its first n heights, again and again.
func repeats(l []int, n int) bool {
	return len(l)%n == 0 && slices.Equal(l[n:], l[:len(l)-n])
}

// Together returns a cycle that is the sum of two at all minutes.
func Together(a, b api.Cycle) (api.Cycle, api.Errno) {
	if !isCycle(a) || !isCycle(b) {
		return api.Cycle{}, api.ErrArg
	}
	every := divisor(divisor(a.Every, b.Every), a.Begin-b.Begin)
	n := multiple(length(a), length(b)) / every
	if n > api.MaxTable {
		return api.Cycle{}, api.ErrLimit
	}
	c := api.Cycle{ID: a.ID, Begin: a.Begin, Every: every}
	for i := range n {
		tick := c.Begin + i*every
		h := value(a, tick) + value(b, tick)
		if !within(h, api.MaxTide) {
			return api.Cycle{}, api.ErrRange
		}
		c.Heights = append(c.Heights, h)
	}
	return c, api.OK
}

// divisor returns the greatest common divisor of a number that is greater than 0, and any other one.
func divisor(a, b int) int {
	for b != 0 {
		a, b = b, a%b
	}
	return max(a, -a)
}

// multiple returns the least common multiple of two numbers that are greater than 0.
func multiple(a, b int) int { return a / divisor(a, b) * b }

// Apart returns the least height of a cycle, and the cycle less it.
func Apart(c api.Cycle) (int, api.Cycle, api.Errno) {
	if !isCycle(c) {
		return 0, api.Cycle{}, api.ErrArg
	}
	m := least(c.Heights[0], c.Heights[1:]...)
	c.Heights = slices.Clone(c.Heights)
	for i := range c.Heights {
		c.Heights[i] -= m
	}
	if slices.Max(c.Heights) > api.MaxTide {
		return 0, api.Cycle{}, api.ErrRange
	}
	return m, c, api.OK
}

// Same reports whether two waters have the same heights in a span of minutes, and returns the first minute in which they do not.
func Same(a, b api.Water, s api.Span) (int, bool, api.Errno) {
	if e := Check(a); e != api.OK {
		return 0, false, e
	}
	if e := checkMinutes(b, s); e != api.OK {
		return 0, false, e
	}
	var other []int
	for _, h := range heights(b, s) {
		other = append(other, h)
	}
	for tick, h := range heights(a, s) {
		if h != other[tick-s.Lo] {
			return tick, false, api.OK
		}
	}
	return 0, true, api.OK
}
