package berth_test

import (
	"slices"
	"testing"

	"kentledge/api"
	"kentledge/berth"
)

// P6.10: a ship lies clear in all minutes of each stay of a plan.
func TestStaysAreClear(t *testing.T) {
	met := map[int]int{}
	forHarbours(many(), 300, func(d *dice, h api.Harbour, l []api.Call) {
		old := d.old(h, l)
		changed, e := berth.Change(h, l, old)
		good(t, e, h, l)
		for _, s := range slices.Concat(planOf(t, h, l), changed) {
			c := l[shipOf(l, s.Call)]
			tick, is, e := berth.Touch(h, s.Slot.Berth, c.Draught, s.Span)
			good(t, e, h, s)
			equal(t, is, false, h, s)
			equal(t, tick, 0, h, s)
			equal(t, s.Span.Hi-s.Span.Lo+1, c.Long, h, s)
			equal(t, s.Span.Lo >= max(c.From, h.Tides[s.Slot.Tide].Lo) && s.Span.Hi <= min(c.To, h.Tides[s.Slot.Tide].Hi), true, h, s)
			met[s.Slot.Tide]++
		}
	})
	enough(t, met, 20, 0, 1, 2, 3, 4, 5)
}

// slotsOf asks for the slots that a ship can take.
func slotsOf(t *testing.T, h api.Harbour, c api.Call) []api.Slot {
	t.Helper()
	l, e := berth.Slots(h, c)
	good(t, e, h, c)
	return l
}

// P6.10: with a lesser draught, or a shorter need, a ship can take at least the same slots.
func TestLesserShips(t *testing.T) {
	more := 0
	forHarbours(many(), 300, func(d *dice, h api.Harbour, l []api.Call) {
		for _, c := range l {
			lesser := c
			lesser.Draught = d.between(0, c.Draught)
			lesser.Long = d.between(1, c.Long)
			can := slotsOf(t, h, lesser)
			for _, x := range slotsOf(t, h, c) {
				equal(t, slices.Contains(can, x), true, h, c, lesser, x)
			}
			more += len(can) - len(slotsOf(t, h, c))
		}
	})
	equal(t, more > 1000, true, more)
}

// P6.10: a ship that waits all the time can take a slot exactly if her draught is at most what Allow returns.
func TestAllowAllows(t *testing.T) {
	met := map[bool]int{}
	forHarbours(few(), 300, func(d *dice, h api.Harbour, l []api.Call) {
		for _, x := range slotsByWords(h) {
			c := api.Call{ID: 1, To: api.MaxTick, Long: d.between(1, 6)}
			most, e := berth.Allow(h, x, c.Long)
			if e != api.OK {
				equal(t, e, api.ErrNone, h, x, c)
				most = -1
			}
			for draught := range 12 {
				c.Draught = draught
				_, is, e := berth.When(h, c, x)
				good(t, e, h, x, c)
				equal(t, is, draught <= most, h, x, c)
				met[is]++
			}
		}
	})
	enough(t, met, 500, true, false)
}

// P6.11: Plan is accepted, and has as many ships as Most says; no plan that is accepted has more; a crowd that is accepted shows that at least so many are left over, and that of Full shows just as many.
func TestPlanOrCrowd(t *testing.T) {
	met := map[bool]int{}
	for _, b := range []bounds{few(), scarce(), many()} {
		forHarbours(b, 300, func(d *dice, h api.Harbour, l []api.Call) {
			p := planOf(t, h, l)
			equal(t, berth.CheckPlan(h, l, p), api.OK, h, l)
			equal(t, mostOf(t, h, l), len(p), h, l)
			x, is, e := berth.Full(h, l)
			good(t, e, h, l)
			equal(t, is, len(p) < len(l), h, l)
			if is {
				n, e := berth.CheckFull(h, l, x)
				good(t, e, h, l, x)
				equal(t, n, len(l)-len(p), h, l, x)
			}
			met[is]++
		})
	}
	enough(t, met, 100, true, false)
	forHarbours(few(), 300, func(d *dice, h api.Harbour, l []api.Call) {
		p := planOf(t, h, l)
		for q := range plansByWords(h, l) {
			equal(t, berth.CheckPlan(h, l, q), api.OK, h, l, q)
			equal(t, len(q) <= len(p), true, h, l, q)
		}
		for _, x := range d.crowds(h, l) {
			if n, e := berth.CheckFull(h, l, x); e == api.OK {
				equal(t, n <= len(l)-len(p), true, h, l, x)
			}
		}
	})
}

// P6.12: without a ship that is sure there is one ship less, without another one just as many.
func TestWithoutSureShips(t *testing.T) {
	met := map[bool]int{}
	for _, b := range []bounds{few(), scarce(), many()} {
		forHarbours(b, 200, func(d *dice, h api.Harbour, l []api.Call) {
			sure, e := berth.Sure(h, l)
			good(t, e, h, l)
			equal(t, slices.IsSorted(sure), true, h, l)
			n := mostOf(t, h, l)
			for i, c := range l {
				is := slices.Contains(sure, c.ID)
				want := n
				if is {
					want--
				}
				equal(t, mostOf(t, h, without(l, i)), want, h, l, c)
				met[is]++
			}
		})
	}
	enough(t, met, 300, true, false)
}

// P6.13: of a plan with the most ships Change changes nothing, and of Plan it is Plan; its plans have as many ships as can be, and fewer changes are not possible.
func TestChangesAgain(t *testing.T) {
	met := map[bool]int{}
	for _, b := range []bounds{few(), scarce(), many()} {
		forHarbours(b, 300, func(d *dice, h api.Harbour, l []api.Call) {
			p := planOf(t, h, l)
			again, e := berth.Change(h, l, p)
			good(t, e, h, l)
			sameList(t, again, p, h, l)
			old := d.old(h, l)
			q, e := berth.Change(h, l, old)
			good(t, e, h, l, old)
			equal(t, len(q), len(p), h, l, old)
			equal(t, berth.CheckPlan(h, l, q), api.OK, h, l, old)
			equal(t, changesByWords(l, old, q) <= changesByWords(l, old, p), true, h, l, old)
			met[changesByWords(l, old, q) < changesByWords(l, old, p)]++
			other, e := berth.Change(h, l, q)
			good(t, e, h, l, q)
			sameList(t, other, q, h, l, old)
			equal(t, len(berth.Changed(q, other)), 0, h, l, old)
			more := append(slices.Clone(l), d.ship(99, h))
			if len(more) <= api.MaxCalls {
				next, e := berth.Change(h, more, q)
				good(t, e, h, more, q)
				equal(t, len(next), mostOf(t, h, more), h, more, q)
				equal(t, len(berth.Changed(q, next)), changesByWords(more, q, next), h, more, q)
			}
		})
	}
	enough(t, met, 50, true, false)
	forHarbours(few(), 200, func(d *dice, h api.Harbour, l []api.Call) {
		most := mostOf(t, h, l)
		for p := range plansByWords(h, l) {
			if len(p) == most {
				q, e := berth.Change(h, l, p)
				good(t, e, h, l, p)
				sameList(t, q, p, h, l)
			}
		}
	})
}

// P6.14: what Lighters returns is accepted, has as many lighters as Busiest finds leases, and no fewer can do.
func TestLightersAreFew(t *testing.T) {
	d := &dice{state: 6}
	for range 500 {
		l := d.leases(api.MaxLeases, 9, d.between(5, api.MaxTick))
		lighters, n, e := berth.Lighters(l)
		good(t, e, l)
		equal(t, berth.CheckLighters(l, lighters), api.OK, l)
		_, most, e := berth.Busiest(l)
		good(t, e, l)
		equal(t, n, most, l)
		for _, x := range lighters {
			equal(t, 0 <= x && x < n, true, l)
		}
	}
	met := map[int]int{}
	for range 600 {
		l := d.leases(5, 3, 15)
		_, n, e := berth.Lighters(l)
		good(t, e, l)
		met[n]++
		codes := 1 // all ways to give the leases fewer lighters
		for range l {
			codes *= max(0, n-1)
		}
		for code := range codes {
			var lighters []int
			for range l {
				lighters = append(lighters, code%(n-1))
				code /= n - 1
			}
			equal(t, berth.CheckLighters(l, lighters), map[bool]api.Errno{true: api.OK, false: api.ErrProof}[len(l) == 0], l, lighters)
		}
	}
	enough(t, met, 10, 1, 2, 3, 4)
}

// P6.14: Clashes of Queue is empty, and Queue of that is it again.
func TestQueueAgain(t *testing.T) {
	d := &dice{state: 7}
	met := map[api.Errno]int{}
	for range 1000 {
		last := d.between(5, 400)
		l := d.leases(api.MaxLeases, 5, last)
		for i := range l {
			if d.one(12) {
				l[i].Span = span(api.MaxTick-d.between(0, 20), api.MaxTick)
			}
		}
		q, e := berth.Queue(l)
		met[e]++
		if e != api.OK {
			equal(t, e, api.ErrLimit, l)
			continue
		}
		pairs, e := berth.Clashes(q)
		good(t, e, l)
		equal(t, len(pairs), 0, l)
		again, e := berth.Queue(q)
		good(t, e, l)
		sameList(t, again, q, l)
		for i := range l {
			equal(t, q[i].ID, l[i].ID, l)
			equal(t, q[i].Heap, l[i].Heap, l)
			equal(t, q[i].Span.Hi-q[i].Span.Lo, l[i].Span.Hi-l[i].Span.Lo, l)
			equal(t, q[i].Span.Lo >= l[i].Span.Lo, true, l)
		}
	}
	enough(t, met, 50, api.OK, api.ErrLimit)
}
