package flow_test

import (
	"slices"
	"testing"

	"kentledge/api"
	"kentledge/flow"
)

// call is one of the functions that are given a trade, with nothing else that is wrong, or with what is wrong besides; empty tells whether the results beside the error are zero.
type call struct {
	name string
	of   func(x api.Trade) (e api.Errno, empty bool)
}

// plain lists the functions that are given a trade alone.
func plain() []call {
	return []call{
		{"Check", func(x api.Trade) (api.Errno, bool) { return flow.Check(x), true }},
		{"Find", func(x api.Trade) (api.Errno, bool) {
			c, e := flow.Find(x)
			return e, isZeroCourse(c)
		}},
		{"Contradiction", func(x api.Trade) (api.Errno, bool) {
			c, is, e := flow.Contradiction(x)
			return e, isZeroCut(c) && !is
		}},
		{"Spans", func(x api.Trade) (api.Errno, bool) {
			l, e := flow.Spans(x)
			return e, len(l) == 0
		}},
		{"Narrowed", func(x api.Trade) (api.Errno, bool) {
			y, e := flow.Narrowed(x)
			return e, isZeroTrade(y)
		}},
		{"Gaps", func(x api.Trade) (api.Errno, bool) {
			l, e := flow.Gaps(x)
			return e, len(l) == 0
		}},
		{"Lacking", func(x api.Trade) (api.Errno, bool) {
			l, e := flow.Lacking(x)
			return e, len(l) == 0
		}},
		{"Fewest", func(x api.Trade) (api.Errno, bool) {
			l, e := flow.Fewest(x)
			return e, len(l) == 0
		}},
		{"Suspects", func(x api.Trade) (api.Errno, bool) {
			l, e := flow.Suspects(x)
			return e, len(l) == 0
		}},
	}
}

// withMore lists the functions that are given something besides, which is right or wrong.
func withMore() []call {
	var list []call
	add := func(name string, of func(x api.Trade) (api.Errno, bool)) {
		list = append(list, call{name, of})
	}
	for _, c := range []api.Course{{}, {Start: []int{100, 0, 10}, End: []int{60, 0, 50}, Mass: []int{40, 40}}} {
		add("CheckCourse", func(x api.Trade) (api.Errno, bool) { return flow.CheckCourse(x, c), true })
	}
	for _, c := range []api.Cut{{}, cutOut(2, 3), cutIn(3, 2)} {
		add("CheckCut", func(x api.Trade) (api.Errno, bool) { return flow.CheckCut(x, c), true })
		add("Through", func(x api.Trade) (api.Errno, bool) {
			n, e := flow.Through(x, c)
			return e, n == 0
		})
	}
	for _, a := range []api.At{{}, massOf(7), massOf(1), endOf(2), startOf(9)} {
		list = append(list, withAt(a)...)
	}
	for _, ids := range [][]int{nil, {7}} {
		add("Without", func(x api.Trade) (api.Errno, bool) {
			y, e := flow.Without(x, ids)
			return e, isZeroTrade(y)
		})
	}
	for _, l := range [][2]int{{1, 2}, {9, 9}, {1, 1}} {
		add("Merged", func(x api.Trade) (api.Errno, bool) {
			y, e := flow.Merged(x, l[0], l[1])
			return e, isZeroTrade(y)
		})
	}
	return list
}

// withAt lists the functions that are given something of a trade.
func withAt(a api.At) []call {
	isZero := func(l api.Limit) bool { return l.Value == 0 && isZeroCourse(l.Course) && isZeroCut(l.Cut) }
	return []call{
		{"Least", func(x api.Trade) (api.Errno, bool) {
			l, e := flow.Least(x, a)
			return e, isZero(l)
		}},
		{"Greatest", func(x api.Trade) (api.Errno, bool) {
			l, e := flow.Greatest(x, a)
			return e, isZero(l)
		}},
		{"Rests", func(x api.Trade) (api.Errno, bool) {
			l, e := flow.Rests(x, a)
			return e, len(l) == 0
		}},
		{"CheckLimit", func(x api.Trade) (api.Errno, bool) { return flow.CheckLimit(x, a, api.Limit{}, true), true }},
		{"CheckLimit", func(x api.Trade) (api.Errno, bool) { return flow.CheckLimit(x, a, api.Limit{}, false), true }},
	}
}

// P5.1 to P5.9, R3, R4: the error of the trade comes first, whatever else is wrong, and with it nothing.
func TestErrorsOfTradesComeFirst(t *testing.T) {
	for _, x := range wrongTrades() {
		for _, c := range slices.Concat(plain(), withMore()) {
			e, empty := c.of(changed(x.do))
			equal(t, e, x.want, c.name, x.name)
			equal(t, empty, true, c.name, x.name)
		}
	}
}

// P5.4, P5.8, R3, R4: then the errors of something: first of its kind, then of its ID, and ErrClash at last.
func TestErrorsOfSomething(t *testing.T) {
	for _, x := range []api.Trade{example(), tooMuch(), nine()} {
		for a, want := range map[api.At]api.Errno{
			{Kind: 0, ID: 7}: api.ErrArg, {Kind: 4, ID: 7}: api.ErrArg, {Kind: -1, ID: 1}: api.ErrArg, {Kind: minInt, ID: 1}: api.ErrArg, {Kind: maxInt, ID: 1}: api.ErrArg, {Kind: 4, ID: 99}: api.ErrArg, {}: api.ErrArg,
			massOf(1): api.ErrNone, massOf(0): api.ErrNone, massOf(10): api.ErrNone, massOf(minInt): api.ErrNone, massOf(maxInt): api.ErrNone,
			startOf(7): api.ErrNone, startOf(0): api.ErrNone, startOf(4): api.ErrNone, startOf(-1): api.ErrNone,
			endOf(8): api.ErrNone, endOf(0): api.ErrNone, endOf(4): api.ErrNone, endOf(maxInt): api.ErrNone,
		} {
			for _, c := range withAt(a) {
				e, empty := c.of(x)
				equal(t, e, want, c.name, a)
				equal(t, empty, true, c.name, a)
			}
		}
	}
	for _, x := range []api.Trade{tooMuch(), nine()} {
		for _, a := range all(x) {
			for _, c := range withAt(a) {
				want := api.ErrClash
				if c.name == "CheckLimit" {
					want = api.ErrProof
				}
				e, empty := c.of(x)
				equal(t, e, want, c.name, a)
				equal(t, empty, true, c.name, a)
			}
		}
	}
	for _, a := range []api.At{massOf(1), startOf(1), endOf(1)} {
		for _, c := range withAt(a) {
			e, _ := c.of(api.Trade{})
			equal(t, e, api.ErrNone, c.name, a)
		}
	}
}

// P5.2, P5.5, P5.6, R4: without a course there is ErrClash, and nothing with it.
func TestClash(t *testing.T) {
	want := map[string]api.Errno{"Find": api.ErrClash, "Spans": api.ErrClash, "Narrowed": api.ErrClash, "Gaps": api.ErrClash, "Lacking": api.ErrClash, "Fewest": api.ErrNone}
	for _, c := range plain() {
		e, empty := c.of(tooMuch())
		equal(t, e, want[c.name], c.name)
		equal(t, empty, c.name != "Contradiction", c.name)
	}
}

// roomy returns a copy of a list with something behind its end, and a test that it is still there.
func roomy[T comparable](l []T, mark T) ([]T, func() bool) {
	long := append(slices.Clone(l), mark, mark)
	return long[:len(l)], func() bool {
		return slices.Equal(long[:len(l)], l) && long[len(l)] == mark && long[len(l)+1] == mark
	}
}

// R6: arguments are not changed, nor is what lies behind their ends.
func TestArgumentsStay(t *testing.T) {
	forTrades(few(), 200, func(d *dice, x api.Trade) {
		var tests [7]func() bool
		l, _ := flow.Greatest(x, startOf(1))
		cut, _, _ := flow.Contradiction(x)
		x.Holders, tests[0] = roomy(x.Holders, api.Holder{ID: -7})
		x.Moves, tests[1] = roomy(x.Moves, api.Move{ID: -7})
		l.Course.Start, tests[2] = roomy(l.Course.Start, -7)
		l.Course.End, tests[3] = roomy(l.Course.End, -7)
		l.Course.Mass, tests[4] = roomy(l.Course.Mass, -7)
		cut.Holders, tests[5] = roomy(append(cut.Holders, l.Cut.Holders...), -7)
		l.Cut = cut
		ids, test := roomy([]int{11, 1, 1, 21}, -7)
		tests[6] = test
		for _, c := range slices.Concat(plain(), withMore(), withAt(startOf(1))) {
			c.of(x)
		}
		flow.CheckCourse(x, l.Course)
		flow.CheckCut(x, cut)
		flow.Through(x, cut)
		flow.CheckLimit(x, startOf(1), l, true)
		flow.CheckLimit(x, startOf(1), l, false)
		y, _ := flow.Without(x, ids)
		z, _ := flow.Merged(x, 8, 1)
		n, _ := flow.Narrowed(x)
		o := newOffice(t, x.Holders)
		for _, r := range []api.Trade{y, z, n, o.Trade()} {
			clear(r.Holders)
			clear(r.Moves)
			_ = append(r.Holders, api.Holder{ID: 5})
			_ = append(r.Moves, api.Move{ID: 5})
		}
		for i, is := range tests {
			equal(t, is(), true, i, x)
		}
	})
}

// R6: results share no memory with each other, with an argument, or with an office.
func TestResultsAreNew(t *testing.T) {
	for range 2 {
		x := example()
		l, e := flow.Least(x, massOf(7))
		good(t, e)
		equal(t, provesByWords(x, massOf(7), l, false), true, l)
		for _, part := range []*[]int{&l.Course.Start, &l.Course.End, &l.Course.Mass, &l.Cut.Holders} {
			before := [4][]int{slices.Clone(l.Course.Start), slices.Clone(l.Course.End), slices.Clone(l.Course.Mass), slices.Clone(l.Cut.Holders)}
			_ = append((*part)[:0:cap(*part)], make([]int, cap(*part))...)
			clear(*part)
			for i, other := range []*[]int{&l.Course.Start, &l.Course.End, &l.Course.Mass, &l.Cut.Holders} {
				if other != part {
					sameList(t, *other, before[i], i)
				}
			}
		}
		for _, of := range []func() ([]int, api.Errno){
			func() ([]int, api.Errno) { return flow.Fewest(nine()) },
			func() ([]int, api.Errno) { return flow.Suspects(nine()) },
			func() ([]int, api.Errno) { return flow.Rests(x, massOf(8)) },
		} {
			first, e := of()
			good(t, e)
			kept := slices.Clone(first)
			clear(first)
			again, e := of()
			good(t, e)
			sameList(t, again, kept)
		}
		y, e := flow.Without(x, nil)
		good(t, e)
		clear(y.Holders)
		clear(y.Moves)
		sameTrade(t, x, example())
	}
}

// R6: an office keeps no memory of others, and gives none away.
func TestOfficesKeepTheirMemory(t *testing.T) {
	x := example()
	o := newOffice(t, x.Holders)
	x.Holders[0] = api.Holder{ID: 9}
	sameList(t, o.Trade().Holders, example().Holders)
	for _, m := range x.Moves {
		good(t, o.Put(m))
	}
	y := o.Trade()
	clear(y.Holders)
	clear(y.Moves)
	sameTrade(t, o.Trade(), example())
	equal(t, o.Agrees(), true)
}

// R7: the same arguments have the same results, whatever was asked before.
func TestSameResultsAgain(t *testing.T) {
	forTrades(many(), 60, func(d *dice, x api.Trade) {
		c, e := flow.Find(x)
		cut, _, f := flow.Contradiction(x)
		good(t, f)
		l, g := flow.Greatest(x, startOf(1))
		for range 3 {
			flow.Narrowed(x)
			flow.Fewest(nine())
			again, h := flow.Find(x)
			equal(t, h, e, x)
			sameCourse(t, again, c, x)
			cutAgain, _, h := flow.Contradiction(x)
			good(t, h)
			equal(t, sameCut(cutAgain, cut), true, x)
			limit, h := flow.Greatest(x, startOf(1))
			equal(t, h, g, x)
			equal(t, limit.Value, l.Value, x)
			sameCourse(t, limit.Course, l.Course, x)
			equal(t, sameCut(limit.Cut, l.Cut), true, x)
		}
	})
}

func sameCourse(t *testing.T, got, want api.Course, about ...any) {
	t.Helper()
	sameList(t, got.Start, want.Start, about...)
	sameList(t, got.End, want.End, about...)
	sameList(t, got.Mass, want.Mass, about...)
}
