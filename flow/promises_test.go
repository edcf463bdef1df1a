package flow_test

import (
	"slices"
	"testing"

	"kentledge/api"
	"kentledge/flow"
)

// P5.11: whatever course and cut there are, CheckCourse and CheckCut do not both accept them; and there is one of both.
func TestCourseOrCut(t *testing.T) {
	met := map[bool]int{}
	forTrades(few(), 500, func(d *dice, x api.Trade) {
		courses := 0
		for _, c := range coursesByWords(x) {
			equal(t, flow.CheckCourse(x, c), api.OK, x, c)
			courses++
		}
		cuts := 0
		for c := range cutsByWords(x) {
			if flow.CheckCut(x, c) == api.OK {
				cuts++
			}
		}
		equal(t, courses > 0, cuts == 0, x)
		_, is, e := flow.Contradiction(x)
		good(t, e)
		equal(t, is, cuts > 0, x)
		_, e = flow.Find(x)
		equal(t, e == api.OK, courses > 0, x)
		met[courses > 0]++
	})
	enough(t, met, 100, true, false)
}

// P5.12: no course has more (less) than the value of a limit that is accepted, so that all of them have the same one; and each number between the least and the greatest is that of some course.
func TestLimitsAreLimits(t *testing.T) {
	forTrades(few(), 300, func(d *dice, x api.Trade) {
		courses := coursesByWords(x)
		if len(courses) == 0 {
			return
		}
		for _, a := range all(x) {
			limits := values(t, x, a)
			var met []int
			for _, c := range courses {
				n := numberAt(x, c, a)
				equal(t, in(n, limits), true, x, a, n)
				met = append(met, n)
				for cut := range cutsByWords(x) {
					l := api.Limit{Value: n, Course: c, Cut: cut}
					equal(t, flow.CheckLimit(x, a, l, true) == api.OK && n != limits.Hi, false, x, a, l)
					equal(t, flow.CheckLimit(x, a, l, false) == api.OK && n != limits.Lo, false, x, a, l)
				}
			}
			slices.Sort(met)
			equal(t, len(slices.Compact(met)), limits.Hi-limits.Lo+1, x, a)
		}
	})
	forTrades(many(), 100, func(d *dice, x api.Trade) {
		if !isFound(x) {
			return
		}
		list := all(x)
		a := list[d.between(0, len(list)-1)]
		limits, s := values(t, x, a), *spanAt(&x, a)
		for _, n := range []int{limits.Lo, d.between(limits.Lo, limits.Hi), limits.Hi, limits.Lo - 1, limits.Hi + 1, s.Lo, s.Hi} {
			if in(n, s) {
				equal(t, isFound(with(x, a, at(n))), in(n, limits), x, a, n)
			}
		}
	})
}

// P5.13: what a list of holders hold together is what they held, and what came in from others less what went out to others.
func TestConservation(t *testing.T) {
	forTrades(many(), 200, func(d *dice, x api.Trade) {
		c, e := flow.Find(x)
		if e != api.OK {
			return
		}
		for cut := range cutsByWords(x) {
			inside := func(id int) bool { return slices.Contains(cut.Holders, id) }
			start, end := 0, 0
			for i, h := range x.Holders {
				if inside(h.ID) {
					start, end = start+c.Start[i], end+c.End[i]
				}
			}
			for i, m := range x.Moves {
				if inside(m.To) && !inside(m.From) {
					start += c.Mass[i]
				}
				if inside(m.From) && !inside(m.To) {
					start -= c.Mass[i]
				}
			}
			equal(t, start, end, x, cut)
		}
	})
}

// P5.14: Narrowed has just the same courses, and Narrowed of it is it again.
func TestNarrowedAgain(t *testing.T) {
	for i, b := range []bounds{few(), many()} {
		forTrades(b, 200, func(d *dice, x api.Trade) {
			n, e := flow.Narrowed(x)
			if e != api.OK {
				equal(t, isFound(x), false, x)
				equal(t, isZeroTrade(n), true, x)
				return
			}
			good(t, flow.Check(n), x, n)
			again, e := flow.Narrowed(n)
			good(t, e, x, n)
			sameTrade(t, again, n, x)
			if i == 0 {
				equal(t, len(coursesByWords(n)), len(coursesByWords(x)), x, n)
				for _, c := range coursesByWords(x) {
					equal(t, flow.CheckCourse(n, c), api.OK, x, n, c)
				}
			}
		})
	}
}

// P5.15: what a holder holds less than is booked lies in its gap, in each course; it is lacking exactly if this is so much in each one.
func TestGapsOfCourses(t *testing.T) {
	forTrades(few(), 400, func(d *dice, x api.Trade) {
		courses := coursesByWords(x)
		if len(courses) == 0 {
			return
		}
		gaps, e := flow.Gaps(x)
		good(t, e, x)
		ids, e := flow.Lacking(x)
		good(t, e, x)
		for i, h := range x.Holders {
			always := true
			for _, c := range courses {
				equal(t, in(h.Booked-c.End[i], gaps[i].By), true, x, c)
				always = always && c.End[i] < h.Booked
			}
			equal(t, slices.Contains(ids, h.ID), always, x, h)
		}
	})
}

// P5.16: if a trade has a course, so has Merged; and nothing else has narrower limits there.
func TestAsOne(t *testing.T) {
	for _, b := range []bounds{few(), many()} {
		merges := 0
		forTrades(b, 200, func(d *dice, x api.Trade) {
			ids := shuffled(d, allIDs(x))
			if len(ids) < 2 || !isFound(x) {
				return
			}
			y, e := flow.Merged(x, ids[0], ids[1])
			good(t, e, x)
			equal(t, isFound(y), true, x, ids)
			kept := all(y)
			for _, a := range all(x) {
				if !slices.Contains(kept, a) || a == startOf(ids[0]) || a == endOf(ids[0]) {
					continue
				}
				before, after := values(t, x, a), values(t, y, a)
				equal(t, after.Lo <= before.Lo && before.Hi <= after.Hi, true, x, ids, a)
			}
			merges++
		})
		if merges < 40 {
			t.Error("too few trades", merges)
		}
	}
}

// P5.17: without the movements of Fewest there is a course, and without fewer of them there is none; a suspect alone is as few as possible.
func TestLeftOut(t *testing.T) {
	met := map[int]int{}
	d := &dice{state: 517}
	for range 200 {
		x, _ := d.trade(bounds{holders: 4, moves: 4, mass: 9, wide: 1})
		x = d.crowded(x, 3)
		ids, e := flow.Fewest(x)
		good(t, e, x)
		rest, e := flow.Without(x, ids)
		good(t, e, x)
		equal(t, isFound(rest), true, x, ids)
		for out := range 1 << len(x.Moves) {
			if len(idsOut(x, out)) < len(ids) {
				equal(t, isFound(withoutByWords(x, out)), false, x, out)
			}
		}
		some, e := flow.Suspects(x)
		good(t, e, x)
		equal(t, len(some) > 0, len(ids) == 1, x)
		if len(ids) == 1 {
			equal(t, ids[0], some[0], x)
		}
		met[len(ids)]++
	}
	enough(t, met, 10, 1, 2)
}

// P5.18: whatever the order in which movements are put, an office agrees or does not.
func TestOrderOfMovements(t *testing.T) {
	met := map[bool]int{}
	forTrades(many(), 200, func(d *dice, x api.Trade) {
		_, e := flow.Find(x)
		for range 3 {
			o := newOffice(t, x.Holders)
			moves := shuffled(d, x.Moves)
			for i, m := range moves {
				good(t, o.Put(m), x)
				if d.one(4) { // taken, and put once more behind the others
					j := d.between(0, i)
					good(t, o.Take(moves[j].ID), x)
					good(t, o.Put(moves[j]), x)
				}
			}
			equal(t, o.Agrees(), e == api.OK, x)
			equal(t, len(o.Trade().Moves), len(x.Moves), x)
		}
		met[e == api.OK]++
	})
	enough(t, met, 40, true, false)
}

// P5.19: if what truly was lies within all spans, there is a course, and what truly was lies within all limits.
func TestTruth(t *testing.T) {
	d := &dice{state: 519}
	for i := range 300 {
		x, c := d.trade([]bounds{few(), many()}[i%2])
		equal(t, flow.CheckCourse(x, c), api.OK, x, c)
		equal(t, isFound(x), true, x)
		n, e := flow.Narrowed(x)
		good(t, e, x)
		equal(t, flow.CheckCourse(n, c), api.OK, x, c)
		gaps, e := flow.Gaps(x)
		good(t, e, x)
		spans, e := flow.Spans(x)
		good(t, e, x)
		for j, m := range c.Mass {
			equal(t, in(m, spans[j]), true, x, c)
		}
		for j, h := range x.Holders {
			equal(t, in(h.Booked-c.End[j], gaps[j].By), true, x, c)
		}
		o := newOffice(t, x.Holders)
		for _, m := range x.Moves {
			good(t, o.Put(m), x)
		}
		equal(t, o.Agrees(), true, x)
	}
}
