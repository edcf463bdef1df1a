package berth_test

import (
	"testing"

	"kentledge/api"
	"kentledge/berth"
)

// P6.2, P6.3: the chapter's examples.
func TestExamplesOfDepths(t *testing.T) {
	h := example()
	n, e := berth.Depth(h, 1, 130)
	good(t, e)
	equal(t, n, 1000)
	_, is, e := berth.Touch(h, 2, 600, span(60, 200))
	good(t, e)
	equal(t, is, false)
	n, is, e = berth.Touch(h, 2, 700, span(60, 200))
	good(t, e)
	equal(t, is, true)
	equal(t, n, 60)
	s, is, e := berth.When(h, brig(1), slot(0, 2))
	good(t, e)
	equal(t, is, true)
	equal(t, s, span(120, 179))
	for long, want := range map[int]int{60: 750, 61: 650, 120: 650, 180: 650, 181: 550, 240: 550} {
		n, e = berth.Allow(h, slot(0, 2), long)
		good(t, e)
		equal(t, n, want, long)
	}
}

// P6.2: the depth is that of the berth and the height of the water together, in all minutes.
func TestDepthByWords(t *testing.T) {
	forHarbours(few(), 200, func(d *dice, h api.Harbour, l []api.Call) {
		for _, b := range h.Berths {
			for _, tick := range []int{0, 1, api.DayTick - 1, api.DayTick, d.between(0, api.MaxTick), api.MaxTick} {
				n, e := berth.Depth(h, b.ID, tick)
				good(t, e, h)
				equal(t, n, depthByWords(h, b, tick), h, b, tick)
			}
		}
	})
	h := api.Harbour{Water: api.Water{Level: -api.MaxTide}, Berths: []api.Berth{{ID: 1}, {ID: api.MaxID, Depth: api.MaxDeep}}}
	n, e := berth.Depth(h, 1, 0)
	good(t, e)
	equal(t, n, -api.MaxTide)
	n, e = berth.Depth(h, api.MaxID, 0)
	good(t, e)
	equal(t, n, api.MaxDeep-api.MaxTide)
}

// P6.2: Touch finds the first minute in which the ship does not lie clear.
func TestTouchByWords(t *testing.T) {
	met := map[bool]int{}
	forHarbours(few(), 500, func(d *dice, h api.Harbour, l []api.Call) {
		for _, b := range h.Berths {
			from, draught := d.between(api.DayTick-20, api.DayTick+20), d.between(0, 7)
			s := span(from, from+d.between(0, 15))
			n, is, e := berth.Touch(h, b.ID, draught, s)
			good(t, e, h)
			want, touches := 0, false
			for tick := s.Hi; tick >= s.Lo; tick-- {
				if !isClearByWords(h, b, draught, tick) {
					want, touches = tick, true
				}
			}
			equal(t, n, want, h, b, draught, s)
			equal(t, is, touches, h, b, draught, s)
			met[is]++
		}
	})
	enough(t, met, 100, true, false)
}

// P6.2: a ship lies clear if the depth is just enough, and as many minutes can be asked for as a tide can have.
func TestLimitsOfTouch(t *testing.T) {
	h := changed(func(h *api.Harbour) { h.Water.Cycles, h.Berths = nil, []api.Berth{{ID: 1, Depth: 300}} })
	for draught, want := range map[int]bool{0: false, 749: false, 750: false, 751: true, api.MaxDeep: true} {
		for _, s := range []api.Span{span(0, 0), span(7, 9), span(0, api.MaxStay-1), span(api.MaxTick-api.MaxStay+1, api.MaxTick), span(api.MaxTick, api.MaxTick)} {
			n, is, e := berth.Touch(h, 1, draught, s)
			good(t, e, draught, s)
			equal(t, is, want, draught, s)
			if is {
				equal(t, n, s.Lo, draught)
			}
		}
	}
	low := span(100, 110) // in the last minutes only
	h.Water.Cycles = []api.Cycle{{ID: 1, Every: 1, Heights: []int{0, -1}}}
	n, is, e := berth.Touch(h, 1, 750, span(low.Lo, low.Lo))
	good(t, e)
	equal(t, n, 0)
	equal(t, is, false)
	n, is, e = berth.Touch(h, 1, 750, low)
	good(t, e)
	equal(t, n, low.Lo+1)
	equal(t, is, true)
}

// P6.2, R3, R4: the errors of Depth and Touch, and their order.
func TestErrorsOfDepths(t *testing.T) {
	h := example()
	for _, id := range []int{0, 3, -1, api.MaxID + 1, minInt, maxInt} {
		for _, tick := range []int{0, -1, maxInt} {
			n, e := berth.Depth(h, id, tick)
			equal(t, e, api.ErrNone, id, tick)
			equal(t, n, 0)
			n, is, e := berth.Touch(h, id, tick, span(tick, 5))
			equal(t, e, api.ErrNone, id, tick)
			equal(t, n, 0)
			equal(t, is, false)
		}
	}
	for _, tick := range []int{-1, api.MaxTick + 1, minInt, maxInt} {
		n, e := berth.Depth(h, 1, tick)
		equal(t, e, api.ErrArg, tick)
		equal(t, n, 0)
	}
	wrong := func(draught int, s api.Span) {
		n, is, e := berth.Touch(h, 2, draught, s)
		equal(t, e, api.ErrArg, draught, s)
		equal(t, n, 0)
		equal(t, is, false)
	}
	for _, draught := range []int{-1, api.MaxDeep + 1, minInt, maxInt} {
		wrong(draught, span(60, 200))
	}
	for _, s := range append(wrongSpans(), span(0, api.MaxStay), span(0, api.MaxTick), span(api.MaxTick-api.MaxStay, api.MaxTick)) {
		wrong(700, s)
	}
}

// P6.3: When and Slots, minute by minute.
func TestWhenByWords(t *testing.T) {
	met := map[bool]int{}
	forHarbours(few(), 1500, func(d *dice, h api.Harbour, l []api.Call) {
		for _, c := range l {
			var want []api.Slot
			for i, s := range h.Tides {
				for _, b := range h.Berths {
					wanted, can := liesByWords(h, b, s, c)
					got, is, e := berth.When(h, c, slot(i, b.ID))
					good(t, e, h, c)
					equal(t, is, can, h, c, i, b)
					equal(t, got, wanted, h, c, i, b)
					met[is]++
					if can {
						want = append(want, slot(i, b.ID))
					}
				}
			}
			got, e := berth.Slots(h, c)
			good(t, e, h, c)
			sameList(t, got, want, h, c)
		}
	})
	enough(t, met, 1000, true, false)
}

// P6.3: the minutes must lie in the tide, be waited for, and follow each other.
func TestEdgesOfWhen(t *testing.T) {
	h := api.Harbour{
		Water:  api.Water{Cycles: []api.Cycle{{ID: 1, Every: 1, Heights: []int{5, 5, 4, 5, 6, 5, 0, 9, 9, 9}}}},
		Berths: []api.Berth{{ID: 1}},
		Tides:  []api.Span{span(0, 9), span(10, 11), span(13, 15)},
	}
	for i, x := range []struct {
		draught, from, to, long, tide int
		want                          api.Span // none, if it has no minute
	}{
		{5, 0, 99, 1, 0, span(0, 0)}, {5, 0, 99, 2, 0, span(0, 1)}, {5, 0, 99, 3, 0, span(3, 5)}, {5, 0, 99, 4, 0, span(1, 0)},
		{4, 0, 99, 6, 0, span(0, 5)}, {4, 0, 99, 7, 0, span(1, 0)}, {0, 0, 99, 10, 0, span(0, 9)}, {0, 0, 99, 11, 0, span(1, 0)},
		{5, 1, 99, 1, 0, span(1, 1)}, {5, 1, 99, 2, 0, span(3, 4)}, {5, 4, 99, 2, 0, span(4, 5)}, {5, 4, 99, 3, 0, span(7, 9)},
		{5, 0, 8, 3, 0, span(3, 5)}, {5, 4, 8, 3, 0, span(1, 0)}, {5, 4, 5, 2, 0, span(4, 5)}, {5, 4, 4, 1, 0, span(4, 4)}, {5, 2, 2, 1, 0, span(1, 0)},
		{9, 0, 99, 3, 0, span(7, 9)}, {9, 0, 99, 4, 0, span(1, 0)}, {10, 0, 99, 1, 0, span(1, 0)},
		{5, 0, 99, 2, 1, span(10, 11)}, {5, 7, 99, 2, 1, span(10, 11)}, {5, 0, 99, 3, 1, span(1, 0)}, {5, 11, 99, 1, 1, span(11, 11)}, {5, 11, 99, 2, 1, span(1, 0)},
		{5, 12, 99, 1, 1, span(1, 0)}, {5, 0, 9, 1, 1, span(1, 0)}, {5, 0, 10, 1, 1, span(10, 10)},
		{5, 0, 99, 3, 2, span(13, 15)}, {5, 0, 14, 3, 2, span(1, 0)}, {0, 0, 99, api.MaxStay, 2, span(1, 0)},
	} {
		c := api.Call{ID: 1, Draught: x.draught, From: x.from, To: x.to, Long: x.long}
		s, is, e := berth.When(h, c, slot(x.tide, 1))
		good(t, e, i)
		equal(t, is, x.want.Lo <= x.want.Hi, i)
		if !is {
			x.want = api.Span{}
		}
		equal(t, s, x.want, i)
	}
}

// allowByWords is the greatest draught: the least depth of some minutes that follow each other, for all of these.
func allowByWords(h api.Harbour, b api.Berth, s api.Span, long int) int {
	most := -1
	for from := s.Lo; from+long-1 <= s.Hi; from++ {
		least := api.MaxDeep
		for tick := from; tick < from+long; tick++ {
			least = min(least, depthByWords(h, b, tick)-h.Keel)
		}
		most = max(most, least)
	}
	return most
}

// P6.3: Allow, minute by minute.
func TestAllowByWords(t *testing.T) {
	met := map[bool]int{}
	forHarbours(few(), 400, func(d *dice, h api.Harbour, l []api.Call) {
		for i, s := range h.Tides {
			for _, b := range h.Berths {
				for long := 1; long < 10; long++ {
					want := allowByWords(h, b, s, long)
					n, e := berth.Allow(h, slot(i, b.ID), long)
					met[e == api.OK]++
					if want < 0 {
						equal(t, e, api.ErrNone, h, b, s, long)
						want = 0
					} else {
						good(t, e, h, b, s, long)
					}
					equal(t, n, want, h, b, s, long)
				}
			}
		}
	})
	enough(t, met, 500, true, false)
}

// P6.3: the least and the greatest draught that there is.
func TestLimitsOfAllow(t *testing.T) {
	h := api.Harbour{Berths: []api.Berth{{ID: 1, Depth: api.MaxDeep}, {ID: 2, Depth: 50}}, Tides: []api.Span{span(api.MaxTick-api.MaxStay+1, api.MaxTick)}}
	for _, x := range []struct{ level, keel, berth, want int }{
		{0, 0, 1, api.MaxDeep}, {1, 0, 1, api.MaxDeep}, {api.MaxTide, 0, 1, api.MaxDeep}, {-1, 0, 1, api.MaxDeep - 1}, {0, 1, 1, api.MaxDeep - 1}, {5, 6, 1, api.MaxDeep - 1},
		{0, api.MaxDeep, 1, 0}, {0, 50, 2, 0}, {0, 49, 2, 1}, {0, 51, 2, -1}, {-50, 0, 2, 0}, {-51, 0, 2, -1}, {-api.MaxTide, api.MaxDeep, 2, -1},
	} {
		h.Water.Level, h.Keel = x.level, x.keel
		for _, long := range []int{1, 2, api.MaxStay} {
			n, e := berth.Allow(h, slot(0, x.berth), long)
			if x.want < 0 {
				equal(t, e, api.ErrNone, x)
				equal(t, n, 0, x)
				continue
			}
			good(t, e, x)
			equal(t, n, x.want, x)
		}
	}
}

// P6.3, R3, R4: the errors of When, Allow and Slots, and their order.
func TestErrorsOfSlots(t *testing.T) {
	h := example()
	none := []api.Slot{slot(-1, 1), slot(2, 1), slot(minInt, 1), slot(maxInt, 1), slot(0, 0), slot(0, 3), slot(0, -1), slot(1, minInt), slot(1, maxInt), slot(-1, 11)}
	for _, x := range none {
		s, is, e := berth.When(h, brig(11), x)
		equal(t, e, api.ErrNone, x)
		equal(t, s, api.Span{}, x)
		equal(t, is, false, x)
		for _, long := range []int{60, 0, api.MaxStay + 1} {
			n, e := berth.Allow(h, x, long)
			equal(t, e, api.ErrNone, x, long)
			equal(t, n, 0, x, long)
		}
	}
	for _, c := range wrongCalls() {
		for _, x := range append(none, slot(0, 1)) {
			s, is, e := berth.When(h, spoiled(11, c), x)
			equal(t, e, api.ErrArg, c.name, x)
			equal(t, s, api.Span{}, c.name, x)
			equal(t, is, false, c.name, x)
		}
		l, e := berth.Slots(h, spoiled(11, c))
		equal(t, e, api.ErrArg, c.name)
		equal(t, len(l), 0, c.name)
	}
	for _, long := range []int{0, -1, api.MaxStay + 1, minInt, maxInt} {
		n, e := berth.Allow(h, slot(0, 2), long)
		equal(t, e, api.ErrArg, long)
		equal(t, n, 0, long)
	}
	for _, long := range []int{241, api.MaxStay} {
		n, e := berth.Allow(h, slot(0, 2), long)
		equal(t, e, api.ErrNone, long)
		equal(t, n, 0, long)
	}
}

// P6.3: slots are ordered by the tide, then as the berths are, whatever their IDs.
func TestOrderOfSlots(t *testing.T) {
	h := example()
	h.Berths[0], h.Berths[1] = h.Berths[1], h.Berths[0]
	l, e := berth.Slots(h, brig(11))
	good(t, e)
	sameList(t, l, []api.Slot{slot(0, 2), slot(0, 1), slot(1, 2), slot(1, 1)})
	l, e = berth.Slots(api.Harbour{}, brig(11))
	good(t, e)
	equal(t, len(l), 0)
}
