package berth_test

import (
	"slices"
	"testing"

	"kentledge/api"
	"kentledge/berth"
)

// asked is one of the functions that are given a harbour; empty tells whether the results beside the error are zero.
type asked struct {
	name string
	of   func(h api.Harbour) (e api.Errno, empty bool)
}

// askedOfBerths lists the functions without ships that wait, with arguments that are right or wrong.
func askedOfBerths() []asked {
	var list []asked
	for _, n := range []int{1, 7, -1} {
		list = append(list, asked{"Depth", func(h api.Harbour) (api.Errno, bool) {
			d, e := berth.Depth(h, n, n)
			return e, d == 0
		}}, asked{"Touch", func(h api.Harbour) (api.Errno, bool) {
			tick, is, e := berth.Touch(h, n, 7000*n, span(n, 9))
			return e, tick == 0 && !is
		}}, asked{"Allow", func(h api.Harbour) (api.Errno, bool) {
			d, e := berth.Allow(h, slot(n, n), n)
			return e, d == 0
		}}, asked{"When", func(h api.Harbour) (api.Errno, bool) {
			s, is, e := berth.When(h, brig(n), slot(n, n))
			return e, s == api.Span{} && !is
		}}, asked{"Slots", func(h api.Harbour) (api.Errno, bool) {
			l, e := berth.Slots(h, brig(n))
			return e, len(l) == 0
		}})
	}
	return append(list, asked{"Check", func(h api.Harbour) (api.Errno, bool) { return berth.Check(h), true }})
}

// askedOfShips lists the functions with ships that wait.
func askedOfShips(l []api.Call) []asked {
	list := []asked{
		{"CheckCalls", func(h api.Harbour) (api.Errno, bool) { return berth.CheckCalls(h, l), true }},
		{"Most", func(h api.Harbour) (api.Errno, bool) {
			n, e := berth.Most(h, l)
			return e, n == 0
		}},
		{"Plan", func(h api.Harbour) (api.Errno, bool) {
			p, e := berth.Plan(h, l)
			return e, len(p) == 0
		}},
		{"Full", func(h api.Harbour) (api.Errno, bool) {
			x, is, e := berth.Full(h, l)
			return e, len(x.Calls)+len(x.Slots) == 0 && !is
		}},
		{"Sure", func(h api.Harbour) (api.Errno, bool) {
			ids, e := berth.Sure(h, l)
			return e, len(ids) == 0
		}},
	}
	for _, p := range [][]api.Stay{nil, three(), make([]api.Stay, 11)} {
		list = append(list, asked{"CheckPlan", func(h api.Harbour) (api.Errno, bool) { return berth.CheckPlan(h, l, p), true }})
		list = append(list, asked{"Change", func(h api.Harbour) (api.Errno, bool) {
			q, e := berth.Change(h, l, p)
			return e, len(q) == 0
		}})
	}
	for _, x := range []api.Crowd{{}, {Calls: []int{1}}, {Calls: []int{11, 12}, Slots: []api.Slot{slot(0, 1)}}} {
		list = append(list, asked{"CheckFull", func(h api.Harbour) (api.Errno, bool) {
			n, e := berth.CheckFull(h, l, x)
			return e, n == 0
		}})
	}
	return list
}

// P6.1 to P6.7, R3, R4: the error of the harbour comes first, whatever else is wrong, and with it nothing.
func TestErrorsOfHarboursComeFirst(t *testing.T) {
	for _, x := range wrongHarbours() {
		h := changed(x.do)
		for _, f := range slices.Concat(askedOfBerths(), askedOfShips(nil), askedOfShips(brigs(3)), askedOfShips(brigs(11)), askedOfShips(make([]api.Call, 2))) {
			e, empty := f.of(h)
			equal(t, e, x.want, f.name, x.name)
			equal(t, empty, true, f.name, x.name)
		}
	}
}

// P6.1, P6.4 to P6.7, R3, R4: then that of the ships.
func TestErrorsOfShipsComeNext(t *testing.T) {
	is := func(l []api.Call, want api.Errno, about string) {
		for _, h := range []api.Harbour{{}, example()} {
			for _, f := range askedOfShips(l) {
				e, empty := f.of(h)
				equal(t, e, want, f.name, about)
				equal(t, empty, true, f.name, about)
			}
		}
	}
	is(brigs(11), api.ErrLimit, "eleven")
	is(make([]api.Call, 11), api.ErrLimit, "eleven wrong ones")
	is(append(brigs(2), brig(12)), api.ErrTwice, "twice")
	is(append(brigs(2), brig(12), api.Call{}), api.ErrTwice, "twice ahead of a wrong one")
	is(append(brigs(2), api.Call{}, brig(12)), api.ErrArg, "twice behind a wrong one")
	for _, x := range wrongCalls() {
		is([]api.Call{spoiled(1, x)}, api.ErrArg, x.name)
		is(append(brigs(2), spoiled(11, x)), api.ErrArg, x.name)
	}
}

// roomy returns a copy of a list with something behind its end, and a test that it is still there.
func roomy[T comparable](l []T, mark T) ([]T, func() bool) {
	long := append(slices.Clone(l), mark, mark)
	return long[:len(l)], func() bool {
		return slices.Equal(long[:len(l)], l) && long[len(l)] == mark && long[len(l)+1] == mark
	}
}

// R6: arguments are not changed, nor is what lies behind their ends; results are new memory.
func TestArgumentsStay(t *testing.T) {
	forHarbours(few(), 200, func(d *dice, h api.Harbour, l []api.Call) {
		var tests [8]func() bool
		x, _, e := berth.Full(h, l)
		good(t, e)
		h.Berths, tests[0] = roomy(h.Berths, api.Berth{ID: -7})
		h.Tides, tests[1] = roomy(h.Tides, span(-7, -7))
		l, tests[2] = roomy(l, api.Call{ID: -7})
		old, test := roomy(d.old(h, l), api.Stay{Call: -7})
		tests[3] = test
		x.Calls, tests[4] = roomy(x.Calls, -7)
		x.Slots, tests[5] = roomy(x.Slots, slot(-7, -7))
		h.Water.Shifts, tests[6] = roomy(h.Water.Shifts, api.Shift{From: -7})
		p, test := roomy(planOf(t, h, l), api.Stay{Call: -7})
		tests[7] = test
		for _, f := range slices.Concat(askedOfBerths(), askedOfShips(l)) {
			f.of(h)
		}
		berth.CheckPlan(h, l, p)
		berth.CheckFull(h, l, x)
		y, _, e := berth.Full(h, l)
		good(t, e)
		sure, e := berth.Sure(h, l)
		good(t, e)
		q, e := berth.Change(h, l, old)
		good(t, e)
		again, e := berth.Change(h, l, p)
		good(t, e)
		changed := berth.Changed(old, p)
		for _, list := range [][]int{y.Calls, sure, changed} {
			_ = append(list, 5)
			clear(list)
		}
		for _, list := range [][]api.Stay{q, again} {
			_ = append(list, api.Stay{})
			clear(list)
		}
		clear(y.Slots)
		for _, c := range l {
			clear(slotsOf(t, h, c))
		}
		for i, is := range tests {
			equal(t, is(), true, i, h, l)
		}
	})
}

// R6: the same of leases.
func TestLeasesStay(t *testing.T) {
	d := &dice{state: 8}
	for range 200 {
		l, isSame := roomy(d.leases(9, 3, 15), lease(-7, 0, 0, 0))
		lighters, n, e := berth.Lighters(l)
		good(t, e)
		lighters, isLighters := roomy(lighters, n)
		good(t, berth.CheckLighters(l, lighters))
		_, _, e = berth.Busiest(l)
		good(t, e)
		pairs, e := berth.Clashes(l)
		good(t, e)
		clear(pairs)
		queue, e := berth.Queue(l)
		good(t, e)
		_ = append(queue, api.Lease{})
		clear(queue)
		equal(t, isSame(), true, l)
		equal(t, isLighters(), true, l)
	}
}

// R7: the same arguments have the same results, whatever was asked before and is done to what was answered.
func TestSameResultsAgain(t *testing.T) {
	forHarbours(scarce(), 100, func(d *dice, h api.Harbour, l []api.Call) {
		p := planOf(t, h, l)
		x, is, e := berth.Full(h, l)
		good(t, e)
		for range 3 {
			again := planOf(t, h, l)
			sameList(t, again, p, h, l)
			clear(again)
			y, isAgain, e := berth.Full(h, l)
			good(t, e)
			equal(t, isAgain, is, h, l)
			sameList(t, y.Calls, x.Calls, h, l)
			sameList(t, y.Slots, x.Slots, h, l)
			clear(y.Calls)
			clear(y.Slots)
			planOf(t, example(), brigs(7))
		}
	})
}
