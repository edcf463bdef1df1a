package flow_test

import (
	"iter"
	"slices"
	"testing"

	"kentledge/api"
	"kentledge/flow"
)

const (
	minInt = -1 << 63
	maxInt = 1<<63 - 1
)

func span(lo, hi int) api.Span { return api.Span{Lo: lo, Hi: hi} }

// at is the span of one number.
func at(n int) api.Span { return span(n, n) }

func massOf(id int) api.At { return api.At{Kind: api.AtMass, ID: id} }

func startOf(id int) api.At { return api.At{Kind: api.AtStart, ID: id} }

func endOf(id int) api.At { return api.At{Kind: api.AtEnd, ID: id} }

func cutOut(ids ...int) api.Cut { return api.Cut{Way: api.CuOut, Holders: ids} }

func cutIn(ids ...int) api.Cut { return api.Cut{Way: api.CuIn, Holders: ids} }

func holder(id int, start, end api.Span, booked int) api.Holder {
	return api.Holder{ID: id, Start: start, End: end, Booked: booked}
}

func move(id, from, to int, mass api.Span) api.Move {
	return api.Move{ID: id, From: from, To: to, Mass: mass}
}

// example is the trade of the chapter's examples: a heap, a lighter, and a ship.
func example() api.Trade {
	return api.Trade{
		Holders: []api.Holder{holder(1, at(100), span(40, 60), 60), holder(2, at(0), at(0), 0), holder(3, span(10, 20), span(50, 70), 50)},
		Moves:   []api.Move{move(7, 1, 2, span(30, 50)), move(8, 2, 3, span(35, 60))},
	}
}

// changed is the trade of the examples with something else.
func changed(f func(t *api.Trade)) api.Trade {
	t := example()
	f(&t)
	return t
}

// tooMuch is the trade of the examples with another end of the ship; it has no course.
func tooMuch() api.Trade {
	return changed(func(t *api.Trade) { t.Holders[2].End = span(75, 80) })
}

// nine is the trade of the examples with the movement 9 besides; it has no course.
func nine() api.Trade {
	return changed(func(t *api.Trade) { t.Moves = append(t.Moves, move(9, 1, 3, at(30))) })
}

// copied is the same trade in other memory.
func copied(t api.Trade) api.Trade {
	return api.Trade{Holders: slices.Clone(t.Holders), Moves: slices.Clone(t.Moves)}
}

// all lists everything of a trade that has a span.
func all(t api.Trade) []api.At {
	var l []api.At
	for _, h := range t.Holders {
		l = append(l, startOf(h.ID), endOf(h.ID))
	}
	for _, m := range t.Moves {
		l = append(l, massOf(m.ID))
	}
	return l
}

// spanAt is where a trade has the span of something.
func spanAt(t *api.Trade, x api.At) *api.Span {
	for i := range t.Holders {
		if x == startOf(t.Holders[i].ID) {
			return &t.Holders[i].Start
		}
		if x == endOf(t.Holders[i].ID) {
			return &t.Holders[i].End
		}
	}
	for i := range t.Moves {
		if x == massOf(t.Moves[i].ID) {
			return &t.Moves[i].Mass
		}
	}
	panic("no such thing")
}

// numberAt is what something is in a course.
func numberAt(t api.Trade, c api.Course, x api.At) int {
	for i, h := range t.Holders {
		if x == startOf(h.ID) {
			return c.Start[i]
		}
		if x == endOf(h.ID) {
			return c.End[i]
		}
	}
	for i, m := range t.Moves {
		if x == massOf(m.ID) {
			return c.Mass[i]
		}
	}
	panic("no such thing")
}

// with is a trade in which something has another span.
func with(t api.Trade, x api.At, s api.Span) api.Trade {
	t = copied(t)
	*spanAt(&t, x) = s
	return t
}

func in(n int, s api.Span) bool { return s.Lo <= n && n <= s.Hi }

// endByWords is what the holder with an index holds at the end by what a course says of the beginning and of the movements.
func endByWords(t api.Trade, c api.Course, i int) int {
	end := c.Start[i]
	for j, m := range t.Moves {
		if m.To == t.Holders[i].ID {
			end += c.Mass[j]
		}
		if m.From == t.Holders[i].ID {
			end -= c.Mass[j]
		}
	}
	return end
}

// isCourseByWords tells whether a course is one of a trade.
func isCourseByWords(t api.Trade, c api.Course) bool {
	if len(c.Start) != len(t.Holders) || len(c.End) != len(t.Holders) || len(c.Mass) != len(t.Moves) {
		return false
	}
	for i, m := range t.Moves {
		if !in(c.Mass[i], m.Mass) {
			return false
		}
	}
	for i, h := range t.Holders {
		if !in(c.Start[i], h.Start) || !in(c.End[i], h.End) || endByWords(t, c, i) != c.End[i] {
			return false
		}
	}
	return true
}

// forNumbers goes through all lists with a number of each span, in the same list each time.
func forNumbers(spans []api.Span, do func(l []int)) {
	l := make([]int, len(spans))
	var next func(i int)
	next = func(i int) {
		if i == len(spans) {
			do(l)
			return
		}
		for n := spans[i].Lo; n <= spans[i].Hi; n++ {
			l[i] = n
			next(i + 1)
		}
	}
	next(0)
}

// coursesByWords lists all courses of a trade with narrow spans.
func coursesByWords(t api.Trade) []api.Course {
	var spans []api.Span
	for _, h := range t.Holders {
		spans = append(spans, h.Start)
	}
	for _, m := range t.Moves {
		spans = append(spans, m.Mass)
	}
	var courses []api.Course
	forNumbers(spans, func(l []int) {
		c := api.Course{Start: slices.Clone(l[:len(t.Holders)]), Mass: slices.Clone(l[len(t.Holders):])}
		for i := range t.Holders {
			c.End = append(c.End, endByWords(t, c, i))
		}
		if isCourseByWords(t, c) {
			courses = append(courses, c)
		}
	})
	return courses
}

// limitsByWords is from the least to the greatest number that something is in some courses.
func limitsByWords(t api.Trade, courses []api.Course, x api.At) api.Span {
	var l []int
	for _, c := range courses {
		l = append(l, numberAt(t, c, x))
	}
	return span(slices.Min(l), slices.Max(l))
}

// throughByWords is what goes through a cut.
func throughByWords(t api.Trade, c api.Cut) int {
	inside := func(id int) bool { return slices.Contains(c.Holders, id) }
	sum := 0
	for _, h := range t.Holders {
		if !inside(h.ID) {
			continue
		}
		if c.Way == api.CuOut {
			sum += h.End.Lo - h.Start.Hi
		} else {
			sum += h.Start.Lo - h.End.Hi
		}
	}
	for _, m := range t.Moves {
		away, towards := inside(m.From) && !inside(m.To), inside(m.To) && !inside(m.From)
		if c.Way == api.CuOut && away || c.Way == api.CuIn && towards {
			sum += m.Mass.Lo
		}
		if c.Way == api.CuOut && towards || c.Way == api.CuIn && away {
			sum -= m.Mass.Hi
		}
	}
	return sum
}

// cutsByWords yields all cuts that are formed for a trade.
func cutsByWords(t api.Trade) iter.Seq[api.Cut] {
	return func(yield func(api.Cut) bool) {
		for set := 1; set < 1<<len(t.Holders); set++ {
			var ids []int
			for i, h := range t.Holders {
				if set>>i&1 == 1 {
					ids = append(ids, h.ID)
				}
			}
			slices.Sort(ids)
			if !yield(cutOut(ids...)) || !yield(cutIn(slices.Clone(ids)...)) {
				return
			}
		}
	}
}

// isFormedByWords tells whether a cut is one of all that are formed.
func isFormedByWords(t api.Trade, c api.Cut) bool {
	for d := range cutsByWords(t) {
		if sameCut(c, d) {
			return true
		}
	}
	return false
}

func sameCut(c, d api.Cut) bool { return c.Way == d.Way && slices.Equal(c.Holders, d.Holders) }

func isZeroCut(c api.Cut) bool { return c.Way == 0 && len(c.Holders) == 0 }

func isZeroCourse(c api.Course) bool { return len(c.Start)+len(c.End)+len(c.Mass) == 0 }

func isZeroTrade(t api.Trade) bool { return len(t.Holders)+len(t.Moves) == 0 }

// contradictsByWords tells whether a cut is formed, and contradicts a trade.
func contradictsByWords(t api.Trade, c api.Cut) bool {
	return isFormedByWords(t, c) && throughByWords(t, c) > 0
}

// provesByWords tells whether a limit proves that something can be at most (at least) its value.
func provesByWords(t api.Trade, x api.At, l api.Limit, greatest bool) bool {
	if !isCourseByWords(t, l.Course) || numberAt(t, l.Course, x) != l.Value {
		return false
	}
	s := *spanAt(&t, x)
	farther := span(s.Lo, l.Value-1)
	if greatest {
		farther = span(l.Value+1, s.Hi)
	}
	if farther.Lo > farther.Hi {
		return isZeroCut(l.Cut)
	}
	return contradictsByWords(with(t, x, farther), l.Cut)
}

// withoutByWords is a trade without the movements whose bits are set.
func withoutByWords(t api.Trade, out int) api.Trade {
	rest := api.Trade{Holders: slices.Clone(t.Holders)}
	for i, m := range t.Moves {
		if out>>i&1 == 0 {
			rest.Moves = append(rest.Moves, m)
		}
	}
	return rest
}

// dice rolls numbers, the same ones in each run.
type dice struct{ state uint64 }

func (d *dice) between(lo, hi int) int {
	d.state = d.state*6364136223846793005 + 1442695040888963407
	return lo + int((d.state>>33)%uint64(hi-lo+1))
}

// one tells whether a die of so many sides shows its first one.
func (d *dice) one(sides int) bool { return d.between(1, sides) == 1 }

// around rolls a span with a number, whose ends are mostly at most so far from it.
func (d *dice) around(n, most int) api.Span {
	most = most * d.between(0, 4) / 2
	return span(max(0, n-d.between(0, most)), min(api.MaxMass, n+d.between(0, most)))
}

// shuffled rolls an order of a list.
func shuffled[T any](d *dice, l []T) []T {
	l = slices.Clone(l)
	for i := range l {
		j := d.between(0, i)
		l[i], l[j] = l[j], l[i]
	}
	return l
}

// bounds is how large rolled trades are: at most so many holders and movements, and masses; the ends of each span are mostly at most so far from what truly was.
type bounds struct{ holders, moves, mass, wide int }

// few are trades whose courses can be gone through, many are as large as can be.
func few() bounds { return bounds{holders: 3, moves: 4, mass: 4, wide: 1} }

func many() bounds {
	return bounds{holders: api.MaxHolders, moves: api.MaxMoves, mass: 3000, wide: 900}
}

// trade rolls a trade, with a course. IDs of movements can be those of holders, too.
func (d *dice) trade(b bounds) (api.Trade, api.Course) {
	for {
		var t api.Trade
		var c api.Course
		for i := range d.between(1, b.holders) {
			t.Holders = append(t.Holders, api.Holder{ID: 7*i%11 + 1})
			c.Start = append(c.Start, d.between(0, b.mass))
		}
		for i := range d.between(0, b.moves) * min(1, len(t.Holders)-1) {
			ends := shuffled(d, t.Holders)
			c.Mass = append(c.Mass, d.between(0, b.mass))
			t.Moves = append(t.Moves, move(10*i%29+1, ends[0].ID, ends[1].ID, d.around(c.Mass[i], b.wide)))
		}
		for i := range t.Holders {
			end := endByWords(t, c, i)
			if end < 0 {
				c.Start[i] -= end // as much as is needed
				end = 0
			}
			c.End = append(c.End, end)
			t.Holders[i].Start, t.Holders[i].End = d.around(c.Start[i], b.wide), d.around(end, b.wide)
			t.Holders[i].Booked = max(0, end+d.between(-2*b.wide, 2*b.wide))
		}
		if flow.Check(t) == api.OK && isCourseByWords(t, c) {
			return t, c
		}
	}
}

// spoiled moves some spans of a trade, so that there is mostly no course left.
func (d *dice) spoiled(t api.Trade, b bounds, times int) api.Trade {
	t = copied(t)
	for range times {
		list := all(t)
		s := spanAt(&t, list[d.between(0, len(list)-1)])
		by := d.between(1, 3*b.wide)
		if d.one(2) {
			by = -min(by, s.Lo)
		}
		if s.Hi+by <= api.MaxMass {
			s.Lo, s.Hi = s.Lo+by, s.Hi+by
		}
	}
	return t
}

// forTrades rolls trades; some have a course, some have none.
func forTrades(b bounds, times int, what func(d *dice, t api.Trade)) {
	d := &dice{state: uint64(b.mass)}
	for i := range times {
		t, _ := d.trade(b)
		what(d, d.spoiled(t, b, i%4))
	}
}

// good fails unless a call had no error.
func good(t *testing.T, e api.Errno, about ...any) {
	t.Helper()
	if e != api.OK {
		t.Fatal("error", e, about)
	}
}

func equal[T comparable](t *testing.T, got, want T, about ...any) {
	t.Helper()
	if got != want {
		t.Errorf("got %v, want %v: %v", got, want, about)
	}
}

func sameList[T comparable](t *testing.T, got, want []T, about ...any) {
	t.Helper()
	if !slices.Equal(got, want) {
		t.Errorf("got %v, want %v: %v", got, want, about)
	}
}

func sameTrade(t *testing.T, got, want api.Trade, about ...any) {
	t.Helper()
	sameList(t, got.Holders, want.Holders, about...)
	sameList(t, got.Moves, want.Moves, about...)
}

// isEmpty fails unless a list is.
func isEmpty[T any](t *testing.T, l []T, about ...any) {
	t.Helper()
	if len(l) != 0 {
		t.Errorf("got %v, want nothing: %v", l, about)
	}
}

// enough fails unless each kind of a thing was met often.
func enough[K comparable](t *testing.T, met map[K]int, least int, kinds ...K) {
	t.Helper()
	for _, k := range kinds {
		if met[k] < least {
			t.Error("too few of the kind", k, met)
		}
	}
}
