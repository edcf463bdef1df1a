package flow_test

import (
	"slices"
	"testing"

	"kentledge/api"
	"kentledge/flow"
)

// values asks for the least and the greatest number that something can be.
func values(t *testing.T, x api.Trade, a api.At) api.Span {
	t.Helper()
	least, e := flow.Least(x, a)
	good(t, e, x, a)
	greatest, e := flow.Greatest(x, a)
	good(t, e, x, a)
	return span(least.Value, greatest.Value)
}

// P5.4 to P5.6: the chapter's examples.
func TestExamplesOfLimits(t *testing.T) {
	x := example()
	equal(t, values(t, x, endOf(1)), span(50, 60))
	l, e := flow.Spans(x)
	good(t, e)
	sameList(t, l, []api.Span{span(40, 50), span(40, 50)})
	gaps, e := flow.Gaps(x)
	good(t, e)
	sameList(t, gaps, []api.Gap{{Holder: 1, By: span(0, 10)}, {Holder: 2, By: at(0)}, {Holder: 3, By: span(-20, 0)}})
	ids, e := flow.Lacking(x)
	good(t, e)
	isEmpty(t, ids)
	x.Holders[0].Booked = 61
	ids, e = flow.Lacking(x)
	good(t, e)
	sameList(t, ids, []int{1})
	x.Holders[2].End = span(65, 70)
	l, e = flow.Spans(x)
	good(t, e)
	equal(t, l[0], span(45, 50))
	equal(t, values(t, x, startOf(3)).Lo, 15)
	n, e := flow.Narrowed(x)
	good(t, e)
	sameTrade(t, n, api.Trade{
		Holders: []api.Holder{holder(1, at(100), span(50, 55), 61), holder(2, at(0), at(0), 0), holder(3, span(15, 20), span(65, 70), 50)},
		Moves:   []api.Move{move(7, 1, 2, span(45, 50)), move(8, 2, 3, span(45, 50))},
	})
}

// P5.4 to P5.6: of small trades, everything lies just between the least and the greatest number of all courses, with proofs.
func TestLimitsOfSmallTrades(t *testing.T) {
	met := map[bool]int{}
	forTrades(few(), 1500, func(d *dice, x api.Trade) {
		courses := coursesByWords(x)
		if len(courses) == 0 {
			for _, a := range all(x) {
				sameErrors(t, x, a, api.ErrClash)
			}
			return
		}
		narrow := copied(x)
		for _, a := range all(x) {
			want := limitsByWords(x, courses, a)
			*spanAt(&narrow, a) = want
			for _, greatest := range []bool{false, true} {
				l, e := limitOf(x, a, greatest)
				good(t, e, x, a)
				equal(t, l.Value, [2]int{want.Lo, want.Hi}[side(greatest)], x, a)
				equal(t, provesByWords(x, a, l, greatest), true, x, a, l)
				equal(t, flow.CheckLimit(x, a, l, greatest), api.OK, x, a, l)
				met[isZeroCut(l.Cut)]++
			}
		}
		got, e := flow.Narrowed(x)
		good(t, e, x)
		sameTrade(t, got, narrow, x)
		spans, e := flow.Spans(x)
		good(t, e, x)
		for i, m := range narrow.Moves {
			equal(t, spans[i], m.Mass, x, i)
		}
		equal(t, len(spans), len(x.Moves), x)
	})
	enough(t, met, 1000, true, false)
}

func side(greatest bool) int {
	if greatest {
		return 1
	}
	return 0
}

func limitOf(x api.Trade, a api.At, greatest bool) (api.Limit, api.Errno) {
	if greatest {
		return flow.Greatest(x, a)
	}
	return flow.Least(x, a)
}

// sameErrors fails unless all functions with something that have ErrClash have an error.
func sameErrors(t *testing.T, x api.Trade, a api.At, want api.Errno) {
	t.Helper()
	for _, greatest := range []bool{false, true} {
		l, e := limitOf(x, a, greatest)
		equal(t, e, want, x, a)
		equal(t, l.Value == 0 && isZeroCourse(l.Course) && isZeroCut(l.Cut), true, x, a, l)
	}
	ids, e := flow.Rests(x, a)
	equal(t, e, want, x, a)
	isEmpty(t, ids, x, a)
}

// P5.4 to P5.6: of large trades, the limits are proved by the words.
func TestLimitsOfLargeTrades(t *testing.T) {
	met := map[bool]int{}
	forTrades(many(), 400, func(d *dice, x api.Trade) {
		if _, e := flow.Find(x); e != api.OK {
			for _, a := range all(x)[:2] {
				sameErrors(t, x, a, api.ErrClash)
			}
			return
		}
		narrow := copied(x)
		for _, a := range all(x) {
			for _, greatest := range []bool{false, true} {
				l, e := limitOf(x, a, greatest)
				good(t, e, x, a)
				equal(t, provesByWords(x, a, l, greatest), true, x, a, l)
				equal(t, flow.CheckLimit(x, a, l, greatest), api.OK, x, a, l)
				met[isZeroCut(l.Cut)]++
			}
			*spanAt(&narrow, a) = values(t, x, a)
		}
		got, e := flow.Narrowed(x)
		good(t, e, x)
		sameTrade(t, got, narrow, x)
		spans, e := flow.Spans(x)
		good(t, e, x)
		for i, m := range narrow.Moves {
			equal(t, spans[i], m.Mass, x, i)
		}
	})
	enough(t, met, 500, true, false)
}

// P5.4: a movement, a start and an end are different things, whose IDs can be the same.
func TestSomethingWithTheSameID(t *testing.T) {
	x := api.Trade{
		Holders: []api.Holder{holder(1, span(20, 40), span(0, 10), 0), holder(2, span(0, 3), span(0, 90), 0)},
		Moves:   []api.Move{move(2, 1, 2, span(5, 35)), move(1, 1, 2, span(6, 30))},
	}
	courses := coursesByWords(x)
	for a, want := range map[api.At]api.Span{
		startOf(1): span(20, 40), endOf(1): span(0, 10), massOf(1): span(6, 30),
		startOf(2): span(0, 3), endOf(2): span(11, 43), massOf(2): span(5, 34),
	} {
		equal(t, limitsByWords(x, courses, a), want, "the words", a)
		equal(t, values(t, x, a), want, a)
	}
}

// limitsNear are limits that differ a little from one.
func limitsNear(x api.Trade, l api.Limit) []api.Limit {
	list := []api.Limit{l}
	for _, by := range []int{-1, 1} {
		list = append(list, api.Limit{Value: l.Value + by, Course: l.Course, Cut: l.Cut})
	}
	near(l.Course, func(c api.Course) {
		list = append(list, api.Limit{Value: l.Value, Course: c, Cut: l.Cut})
	})
	for c := range cutsByWords(x) {
		list = append(list, api.Limit{Value: l.Value, Course: l.Course, Cut: c})
	}
	for _, c := range []api.Cut{{}, {Holders: []int{}}, {Way: api.CuOut}, {Way: api.CuIn}, {Holders: l.Cut.Holders}, {Way: 3, Holders: l.Cut.Holders}, {Way: -1}, {Holders: allIDs(x)}, {Way: l.Cut.Way, Holders: append(slices.Clone(l.Cut.Holders), 99)}} {
		list = append(list, api.Limit{Value: l.Value, Course: l.Course, Cut: c})
	}
	return list
}

// P5.4: CheckLimit accepts just the limits that prove, by the words.
func TestCheckLimit(t *testing.T) {
	met := map[api.Errno]int{}
	check := func(x api.Trade, a api.At, l api.Limit, greatest bool) {
		want := api.ErrProof
		if provesByWords(x, a, l, greatest) {
			want = api.OK
		}
		met[want]++
		equal(t, flow.CheckLimit(x, a, l, greatest), want, x, a, l, greatest)
	}
	d := &dice{state: 54}
	for i := range 90 {
		b := few()
		if i%10 == 0 {
			b = bounds{holders: 5, moves: 12, mass: 3000, wide: 900}
		}
		x, c := d.trade(b)
		for _, a := range all(x) {
			for _, greatest := range []bool{false, true} {
				l, e := limitOf(x, a, greatest)
				good(t, e, x, a)
				for _, n := range limitsNear(x, l) {
					check(x, a, n, greatest)
					check(x, a, n, !greatest)
				}
				for cut := range cutsByWords(x) { // whatever the course is
					check(x, a, api.Limit{Value: numberAt(x, c, a), Course: c, Cut: cut}, greatest)
				}
				check(x, a, api.Limit{Value: numberAt(x, c, a), Course: c}, greatest)
			}
		}
	}
	enough(t, met, 1000, api.OK, api.ErrProof)
}

// P5.4: what CheckLimit says of limits of the trade of the examples, among them one with a cut that is not needed, and values that are none.
func TestCheckLimitOfTheExample(t *testing.T) {
	fifty := api.Course{Start: []int{100, 0, 20}, End: []int{50, 0, 70}, Mass: []int{50, 50}}
	forty := api.Course{Start: []int{100, 0, 10}, End: []int{60, 0, 50}, Mass: []int{40, 40}}
	for i, x := range []struct {
		a        api.At
		l        api.Limit
		greatest bool
		want     api.Errno
	}{
		{massOf(7), api.Limit{Value: 50, Course: fifty}, true, api.OK},
		{massOf(7), api.Limit{Value: 50, Course: fifty, Cut: api.Cut{Holders: []int{}}}, true, api.OK},
		{massOf(7), api.Limit{Value: 50, Course: fifty, Cut: cutIn(1)}, true, api.ErrProof},
		{massOf(7), api.Limit{Value: 50, Course: fifty, Cut: api.Cut{Way: api.CuIn}}, true, api.ErrProof},
		{massOf(7), api.Limit{Value: 50, Course: fifty, Cut: api.Cut{Holders: []int{1}}}, true, api.ErrProof},
		{massOf(7), api.Limit{Value: 50, Course: fifty, Cut: cutIn(1)}, false, api.ErrProof},
		{massOf(7), api.Limit{Value: 40, Course: forty, Cut: cutIn(1)}, false, api.OK},
		{massOf(7), api.Limit{Value: 40, Course: forty, Cut: cutOut(2, 3)}, false, api.ErrProof},
		{massOf(8), api.Limit{Value: 40, Course: forty, Cut: cutIn(1, 2)}, false, api.OK},
		{massOf(8), api.Limit{Value: 40, Course: forty, Cut: cutIn(1)}, false, api.ErrProof},
		{massOf(8), api.Limit{Value: 50, Course: fifty, Cut: cutOut(2)}, true, api.OK},
		{massOf(8), api.Limit{Value: 50, Course: fifty, Cut: cutIn(2)}, true, api.ErrProof},
		{massOf(8), api.Limit{Value: 50, Course: fifty, Cut: cutIn(3)}, true, api.ErrProof},
		{massOf(8), api.Limit{Value: 40, Course: forty}, true, api.ErrProof},
		{endOf(1), api.Limit{Value: 60, Course: forty}, true, api.OK},
		{endOf(1), api.Limit{Value: 50, Course: fifty, Cut: cutIn(1)}, false, api.OK},
		{startOf(3), api.Limit{Value: 20, Course: fifty}, true, api.OK},
		{startOf(3), api.Limit{Value: 10, Course: forty}, false, api.OK},
		{startOf(3), api.Limit{Value: 10, Course: forty}, true, api.ErrProof},
		{startOf(2), api.Limit{Value: 0, Course: forty}, true, api.OK},
		{startOf(2), api.Limit{Value: 0, Course: forty}, false, api.OK},
		{startOf(2), api.Limit{Value: maxInt, Course: forty}, true, api.ErrProof},
		{startOf(2), api.Limit{Value: minInt, Course: forty}, false, api.ErrProof},
		{startOf(2), api.Limit{Value: -1, Course: forty}, false, api.ErrProof},
		{startOf(2), api.Limit{}, false, api.ErrProof},
	} {
		equal(t, provesByWords(example(), x.a, x.l, x.greatest), x.want == api.OK, "the words", i)
		equal(t, flow.CheckLimit(example(), x.a, x.l, x.greatest), x.want, i)
	}
}

// P5.4: without a course no limit proves anything; that is ErrProof, since CheckLimit does not search.
func TestCheckLimitWithoutCourse(t *testing.T) {
	forty := api.Course{Start: []int{100, 0, 10}, End: []int{60, 0, 50}, Mass: []int{40, 40}}
	equal(t, flow.CheckLimit(tooMuch(), massOf(7), api.Limit{Value: 40, Course: forty, Cut: cutIn(1)}, false), api.ErrProof)
	equal(t, flow.CheckLimit(tooMuch(), massOf(7), api.Limit{}, false), api.ErrProof)
}

// P5.6: gaps and holders that lack something are those of all courses.
func TestGaps(t *testing.T) {
	met := map[bool]int{}
	check := func(x api.Trade, ends func(id int) api.Span) {
		gaps, e := flow.Gaps(x)
		good(t, e, x)
		var lacking []int
		var want []api.Gap
		for _, h := range x.Holders {
			end := ends(h.ID)
			want = append(want, api.Gap{Holder: h.ID, By: span(h.Booked-end.Hi, h.Booked-end.Lo)})
			if end.Hi < h.Booked {
				lacking = append(lacking, h.ID)
			}
			met[end.Hi < h.Booked]++
			if end.Hi == h.Booked {
				met[true]++ // just not
			}
		}
		slices.Sort(lacking)
		sameList(t, gaps, want, x)
		ids, e := flow.Lacking(x)
		good(t, e, x)
		sameList(t, ids, lacking, x)
	}
	forTrades(few(), 700, func(d *dice, x api.Trade) {
		courses := coursesByWords(x)
		if len(courses) > 0 {
			check(x, func(id int) api.Span { return limitsByWords(x, courses, endOf(id)) })
			return
		}
		gaps, e := flow.Gaps(x)
		equal(t, e, api.ErrClash, x)
		isEmpty(t, gaps, x)
		ids, e := flow.Lacking(x)
		equal(t, e, api.ErrClash, x)
		isEmpty(t, ids, x)
	})
	forTrades(many(), 100, func(d *dice, x api.Trade) {
		if _, e := flow.Find(x); e == api.OK {
			check(x, func(id int) api.Span { return values(t, x, endOf(id)) })
		}
	})
	enough(t, met, 200, true, false)
}

// P5.6: just Booked is no lack, one less is; and what is lacking is listed by IDs.
func TestLackingByOne(t *testing.T) {
	x := api.Trade{Holders: []api.Holder{holder(9, at(5), span(3, 8), 6), holder(4, at(5), span(3, 8), 5), holder(2, span(0, 7), span(1, 6), 7), holder(3, span(0, 7), span(1, 6), 6)}}
	ids, e := flow.Lacking(x)
	good(t, e)
	sameList(t, ids, []int{2, 9})
	gaps, e := flow.Gaps(x)
	good(t, e)
	sameList(t, gaps, []api.Gap{{Holder: 9, By: at(1)}, {Holder: 4, By: at(0)}, {Holder: 2, By: span(1, 6)}, {Holder: 3, By: span(0, 5)}})
}

// P5.5, P5.6: without movements, and without holders.
func TestSpansOfNothing(t *testing.T) {
	for _, x := range []api.Trade{{}, {Holders: []api.Holder{{ID: 1}}}} {
		l, e := flow.Spans(x)
		good(t, e)
		isEmpty(t, l)
		n, e := flow.Narrowed(x)
		good(t, e)
		sameTrade(t, n, x)
		gaps, e := flow.Gaps(x)
		good(t, e)
		equal(t, len(gaps), len(x.Holders))
		ids, e := flow.Lacking(x)
		good(t, e)
		isEmpty(t, ids)
	}
}
