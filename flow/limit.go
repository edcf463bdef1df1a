package flow

import (
	"slices"

	"kentledge/api"
)

// edgeOf returns the index of the edge that something of a trade is.
func edgeOf(t api.Trade, x api.At) (int, api.Errno) {
	var i, before int
	switch x.Kind {
	case api.AtStart:
		i = holderAt(t.Holders, x.ID)
	case api.AtEnd:
		i, before = holderAt(t.Holders, x.ID), len(t.Holders)
	case api.AtMass:
		i, before = moveAt(t.Moves, x.ID), 2*len(t.Holders)
	default:
		return 0, api.ErrArg
	}
	if i < 0 {
		return 0, api.ErrNone
	}
	return before + i, api.OK
}

// checkAt returns the first error of a trade and of something of it, or the edge that it is.
func checkAt(t api.Trade, x api.At) (int, api.Errno) {
	if e := Check(t); e != api.OK {
		return 0, e
	}
	return edgeOf(t, x)
}

// settledAt returns the network of a trade as a course, and the edge that something is.
func settledAt(t api.Trade, x api.At) (*network, int, api.Errno) {
	i, e := checkAt(t, x)
	if e != api.OK {
		return nil, 0, e
	}
	n, e := settled(t)
	return n, i, e
}

// Least returns the least number that something can be, with a proof.
func Least(t api.Trade, x api.At) (api.Limit, api.Errno) {
	n, i, e := settledAt(t, x)
	if e != api.OK {
		return api.Limit{}, e
	}
	return n.limit(i, n.edges[i].Mass.Lo), api.OK
}

// Greatest returns the greatest number that something can be, with a proof.
func Greatest(t api.Trade, x api.At) (api.Limit, api.Errno) {
	n, i, e := settledAt(t, x)
	if e != api.OK {
		return api.Limit{}, e
	}
	return n.limit(i, n.edges[i].Mass.Hi), api.OK
}

// limit returns how near the mass on an edge can come to an end of its span, with a proof.
func (n *network) limit(i, goal int) api.Limit {
	var c api.Cut
	if reached, is := n.bring(i, goal); !is {
		c = n.cut(reached)
	}
	return api.Limit{Value: n.edges[i].flow, Course: n.course(), Cut: c}
}

// CheckLimit returns OK if a limit is proved, as the greatest number or the least one.
func CheckLimit(t api.Trade, x api.At, l api.Limit, greatest bool) api.Errno {
	i, e := checkAt(t, x)
	if e != api.OK {
		return e
	}
	n := newNetwork(t)
	if !n.isCourse(l.Course) || slices.Concat(l.Course.Start, l.Course.End, l.Course.Mass)[i] != l.Value {
		return api.ErrProof
	}
	if !n.isFarthest(i, l, greatest) {
		return api.ErrProof
	}
	return api.OK
}

// isFarthest reports whether the cut of a limit shows that the mass on an edge can be no greater (no less) than the value, which lies within its span.
func (n *network) isFarthest(i int, l api.Limit, greatest bool) bool {
	farther := &n.edges[i].Mass
	if greatest {
		farther.Lo = l.Value + 1
	} else {
		farther.Hi = l.Value - 1
	}
	if farther.Lo > farther.Hi {
		return l.Cut.Way == 0 && len(l.Cut.Holders) == 0
	}
	return n.contradicts(l.Cut)
}

// Spans returns what each movement can have been, in their order.
func Spans(t api.Trade) ([]api.Span, api.Errno) {
	n, e := settled(t)
	if e != api.OK {
		return nil, e
	}
	var l []api.Span
	for i := range len(t.Moves) {
		l = append(l, n.limits(2*len(t.Holders)+i))
	}
	return l, api.OK
}

// Narrowed returns a trade whose spans are as narrow as its courses allow.
func Narrowed(t api.Trade) (api.Trade, api.Errno) {
	n, e := settled(t)
	if e != api.OK {
		return api.Trade{}, e
	}
	narrow := api.Trade{Holders: slices.Clone(t.Holders), Moves: slices.Clone(t.Moves)}
	for i := range narrow.Holders {
		h := &narrow.Holders[i]
		h.Start, h.End = n.limits(i), n.limits(len(t.Holders)+i)
	}
	for i := range narrow.Moves {
		narrow.Moves[i].Mass = n.limits(2*len(t.Holders) + i)
	}
	return narrow, api.OK
}

// Gaps returns by how much each holder holds less than its book says.
func Gaps(t api.Trade) ([]api.Gap, api.Errno) {
	n, e := settled(t)
	if e != api.OK {
		return nil, e
	}
	var l []api.Gap
	for i, h := range t.Holders {
		end := n.limits(len(t.Holders) + i)
		l = append(l, api.Gap{Holder: h.ID, By: api.Span{Lo: h.Booked - end.Hi, Hi: h.Booked - end.Lo}})
	}
	return l, api.OK
}

// Lacking returns the holders that hold less than their books say in all courses.
func Lacking(t api.Trade) ([]int, api.Errno) {
	gaps, e := Gaps(t)
	if e != api.OK {
		return nil, e
	}
	var ids []int
	for _, g := range gaps {
		if g.By.Lo > 0 {
			ids = append(ids, g.Holder)
		}
	}
	slices.Sort(ids)
	return ids, api.OK
}
