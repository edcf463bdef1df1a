package flow

import (
	"slices"

	"kentledge/api"
)

// settled returns the network of a trade as a course; ErrClash if it has none.
func settled(t api.Trade) (*network, api.Errno) {
	if e := Check(t); e != api.OK {
		return nil, e
	}
	n := newNetwork(t)
	if _, is := n.settle(); !is {
		return nil, api.ErrClash
	}
	return n, api.OK
}

// hasCourse reports whether a valid trade has a course.
func hasCourse(t api.Trade) bool {
	_, is := newNetwork(t).settle()
	return is
}

// Find returns a course of a trade.
func Find(t api.Trade) (api.Course, api.Errno) {
	n, e := settled(t)
	if e != api.OK {
		return api.Course{}, e
	}
	return n.course(), api.OK
}

// CheckCourse returns OK if a course is one of a trade.
func CheckCourse(t api.Trade, c api.Course) api.Errno {
	if e := Check(t); e != api.OK {
		return e
	}
	if !newNetwork(t).isCourse(c) {
		return api.ErrProof
	}
	return api.OK
}

// isCourse reports whether a course is one of the trade of a network.
func (n *network) isCourse(c api.Course) bool {
	holders := len(n.ids)
	if len(c.Start) != holders || len(c.End) != holders || len(c.Mass) != len(n.edges)-2*holders {
		return false
	}
	var sums [api.MaxHolders + 1]int // what flows into a node, less what flows out
	for i, mass := range slices.Concat(c.Start, c.End, c.Mass) {
		e := n.edges[i]
		if !within(mass, e.Mass.Lo, e.Mass.Hi) {
			return false // before it is added: the sum of such numbers could be none
		}
		sums[e.ends[from]] -= mass
		sums[e.ends[to]] += mass
	}
	return sums == [api.MaxHolders + 1]int{}
}

// Contradiction returns a cut that shows that a trade has no course.
func Contradiction(t api.Trade) (api.Cut, bool, api.Errno) {
	if e := Check(t); e != api.OK {
		return api.Cut{}, false, e
	}
	c, is := newNetwork(t).settle()
	return c, !is, api.OK
}

// CheckCut returns OK if a cut shows that a trade has no course.
func CheckCut(t api.Trade, c api.Cut) api.Errno {
	if e := Check(t); e != api.OK {
		return e
	}
	if !newNetwork(t).contradicts(c) {
		return api.ErrProof
	}
	return api.OK
}

// contradicts reports whether a cut is formed, and contradicts the trade of a network.
func (n *network) contradicts(c api.Cut) bool { return n.isFormed(c) && n.through(c) > 0 }

func (n *network) isFormed(c api.Cut) bool {
	if c.Way != api.CuOut && c.Way != api.CuIn || len(c.Holders) == 0 {
		return false
	}
	for i, id := range c.Holders {
		if !slices.Contains(n.ids, id) || i > 0 && id <= c.Holders[i-1] {
			return false
		}
	}
	return true
}

// Through returns by how much a cut contradicts, at least; negative numbers say that it does not.
func Through(t api.Trade, c api.Cut) (int, api.Errno) {
	if e := Check(t); e != api.OK {
		return 0, e
	}
	n := newNetwork(t)
	if !n.isFormed(c) {
		return 0, api.ErrArg
	}
	return n.through(c), api.OK
}
