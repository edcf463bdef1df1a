package curve

import (
	"iter"
	"slices"

	"kentledge/api"
)

// piece is what lies between two neighbouring knots.
type piece struct{ from, to api.Knot }

func (p piece) run() int { return p.to.X - p.from.X }

func (p piece) rise() int { return p.to.Y - p.from.Y }

// pieces yields the pieces of a curve with their numbers.
func pieces(c api.Curve) iter.Seq2[int, piece] {
	return func(yield func(int, piece) bool) {
		for i := 1; i < len(c.Knots); i++ {
			if !yield(i-1, piece{from: c.Knots[i-1], to: c.Knots[i]}) {
				return
			}
		}
	}
}

// find returns the first piece that is wanted, and whether there is one.
func find(c api.Curve, wanted func(piece) bool) (piece, bool) {
	for _, p := range pieces(c) {
		if wanted(p) {
			return p, true
		}
	}
	return piece{}, false
}

// foremost returns the index of the first element of a list that no other one goes before; the list is not empty.
func foremost[T any](l []T, before func(a, b T) bool) int {
	at := 0
	for i := range l {
		if before(l[i], l[at]) {
			at = i
		}
	}
	return at
}

// line is what a piece is a part of. A curve of one knot has no piece, but lies on a line as well; so the same sums serve for it.
type line struct {
	through   api.Knot
	rise, run int
}

// num is the value at x with the denominator run: what has the same denominator can be compared without reducing it.
func (l line) num(x int) int { return l.through.Y*l.run + l.rise*(x-l.through.X) }

func (l line) at(x int) api.Frac { return lowest(l.num(x), l.run) }

// lineOver returns the line on which a curve lies over a span of its domain that has no knot but at its ends.
func lineOver(c api.Curve, s api.Span) line {
	p, found := find(c, func(p piece) bool { return p.from.X <= s.Lo && s.Hi <= p.to.X })
	if !found {
		return line{through: c.Knots[0], run: 1}
	}
	return line{through: p.from, rise: p.rise(), run: p.run()}
}

// corners returns, in order, all X of a span at which one of some curves can bend, and both ends: what is least or greatest is so at one of them first.
func corners(s api.Span, l ...api.Curve) []int {
	at := []int{s.Lo, s.Hi}
	for _, c := range l {
		for _, k := range c.Knots {
			if s.Lo < k.X && k.X < s.Hi {
				at = append(at, k.X)
			}
		}
	}
	slices.Sort(at)
	return slices.Compact(at)
}

// stretch is a span of integers over which two curves lie on one line each.
type stretch struct {
	span api.Span
	a, b line
}

func (t stretch) den() int { return t.a.run * t.b.run }

// gap is the value of a less that of b, with the denominator den.
func (t stretch) gap(x int) int { return t.a.num(x)*t.b.run - t.b.num(x)*t.a.run }

// stretches yields, in order, stretches that have each integer in the domains of both curves once.
func stretches(a, b api.Curve) iter.Seq[stretch] {
	return func(yield func(stretch) bool) {
		both := api.Span{Lo: max(domain(a).Lo, domain(b).Lo), Hi: min(domain(a).Hi, domain(b).Hi)}
		if !isSpan(both) {
			return
		}
		from := both.Lo
		for _, to := range corners(both, a, b) {
			s := api.Span{Lo: from, Hi: to}
			if !yield(stretch{span: s, a: lineOver(a, s), b: lineOver(b, s)}) {
				return
			}
			from = to + 1
		}
	}
}
