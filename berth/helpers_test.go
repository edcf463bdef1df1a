package berth_test

import (
	"iter"
	"slices"
	"testing"

	"kentledge/api"
	"kentledge/berth"
	"kentledge/tide"
)

const (
	minInt = -1 << 63
	maxInt = 1<<63 - 1
)

func span(lo, hi int) api.Span { return api.Span{Lo: lo, Hi: hi} }

func slot(tide, berth int) api.Slot { return api.Slot{Tide: tide, Berth: berth} }

func stay(id int, x api.Slot, lo, hi int) api.Stay {
	return api.Stay{Call: id, Slot: x, Span: span(lo, hi)}
}

// was is an old stay; its minutes do not matter.
func was(id int, x api.Slot) api.Stay { return api.Stay{Call: id, Slot: x} }

func lease(id, heap, lo, hi int) api.Lease { return api.Lease{ID: id, Heap: heap, Span: span(lo, hi)} }

// example is the harbour of the chapter's examples.
func example() api.Harbour {
	return api.Harbour{
		Water:  api.Water{Level: 500, Cycles: []api.Cycle{{ID: 1, Every: 60, Heights: []int{0, 100, 200, 100}}}},
		Berths: []api.Berth{{ID: 1, Depth: 300}, {ID: 2, Depth: 100}},
		Tides:  []api.Span{span(0, 239), span(240, 479)},
		Keel:   50,
	}
}

// changed is the harbour of the examples with something else.
func changed(do func(h *api.Harbour)) api.Harbour {
	h := example()
	do(&h)
	return h
}

// brig is the ship of the examples, with an ID.
func brig(id int) api.Call { return api.Call{ID: id, Draught: 700, To: 1000, Long: 60} }

// brigs are so many ships of the examples, from the ID 11 on.
func brigs(n int) []api.Call {
	var l []api.Call
	for i := range n {
		l = append(l, brig(11+i))
	}
	return l
}

// leases are those of the chapter's examples.
func leases() []api.Lease {
	return []api.Lease{lease(1, 1, 0, 9), lease(2, 1, 5, 14), lease(3, 2, 10, 19)}
}

// full is a harbour with as much of everything as can be, and all numbers as great as can be; berths are not ordered by their IDs.
func full() api.Harbour {
	var h api.Harbour
	h.Water.Level = -api.MaxTide
	for i := range api.MaxCycles {
		c := api.Cycle{ID: api.MaxID - i, Begin: api.MaxTick - i, Every: 1 + i}
		for k := range api.MaxTable {
			c.Heights = append(c.Heights, (k*(k+i)*37)%1400)
		}
		h.Water.Cycles = append(h.Water.Cycles, c)
	}
	for i := range api.MaxShifts {
		h.Water.Shifts = append(h.Water.Shifts, api.Shift{From: 709 + i, To: 709 + i, Add: 10 * i})
	}
	for i := range api.MaxBerths {
		h.Berths = append(h.Berths, api.Berth{ID: api.MaxID - i*3%7, Depth: api.MaxDeep - 100*i})
	}
	for i := range api.MaxTimes {
		last := api.MaxTick - (api.MaxTimes-1-i)*api.MaxStay
		h.Tides = append(h.Tides, span(last-api.MaxStay+1, last))
	}
	h.Keel = 700
	return h
}

// fleet are as many ships as can wait, for the harbour full.
func fleet() []api.Call {
	var l []api.Call
	for i := range api.MaxCalls {
		l = append(l, api.Call{ID: api.MaxID - (i*7)%10, Draught: 4000 + 60*i, From: api.MaxTick - 4000*(i+1), To: api.MaxTick - 300*i, Long: 3 + i%4})
	}
	return l
}

// depthByWords is the depth at a berth in a minute.
func depthByWords(h api.Harbour, b api.Berth, tick int) int {
	height, e := tide.Height(h.Water, tick)
	if e != api.OK {
		panic("no such height")
	}
	return b.Depth + height
}

func isClearByWords(h api.Harbour, b api.Berth, draught, tick int) bool {
	return depthByWords(h, b, tick) >= draught+h.Keel
}

// liesByWords is when a ship lies at a berth in a tide: each minute is tried as the first one.
func liesByWords(h api.Harbour, b api.Berth, t api.Span, c api.Call) (api.Span, bool) {
	are := func(first int) bool {
		for tick := first; tick < first+c.Long; tick++ {
			if tick < t.Lo || tick > t.Hi || tick < c.From || tick > c.To || !isClearByWords(h, b, c.Draught, tick) {
				return false
			}
		}
		return true
	}
	for tick := t.Lo; tick <= t.Hi; tick++ {
		if are(tick) {
			return span(tick, tick+c.Long-1), true
		}
	}
	return api.Span{}, false
}

// staysByWords lists all stays that a ship can have, in the order of the slots.
func staysByWords(h api.Harbour, c api.Call) []api.Stay {
	var l []api.Stay
	for i, t := range h.Tides {
		for _, b := range h.Berths {
			if s, is := liesByWords(h, b, t, c); is {
				l = append(l, api.Stay{Call: c.ID, Slot: slot(i, b.ID), Span: s})
			}
		}
	}
	return l
}

// plansByWords yields all plans, the first one first.
func plansByWords(h api.Harbour, l []api.Call) iter.Seq[[]api.Stay] {
	var stays [][]api.Stay
	for _, c := range l {
		stays = append(stays, staysByWords(h, c))
	}
	return func(yield func([]api.Stay) bool) {
		var plan []api.Stay
		var next func(ship int) bool
		next = func(ship int) bool {
			if ship == len(l) {
				return yield(slices.Clone(plan))
			}
			for _, s := range stays[ship] {
				if slices.ContainsFunc(plan, func(x api.Stay) bool { return x.Slot == s.Slot }) {
					continue
				}
				plan = append(plan, s)
				again := next(ship + 1)
				plan = plan[:len(plan)-1]
				if !again {
					return false
				}
			}
			return next(ship + 1)
		}
		next(0)
	}
}

// changesByWords is how many old stays a plan changes.
func changesByWords(l []api.Call, old, plan []api.Stay) int {
	n := 0
	for _, c := range l {
		isHers := func(s api.Stay) bool { return s.Call == c.ID }
		i := slices.IndexFunc(old, isHers)
		if i < 0 {
			continue
		}
		if j := slices.IndexFunc(plan, isHers); j < 0 || plan[j].Slot != old[i].Slot {
			n++
		}
	}
	return n
}

// mostByWords is, of all plans with the most ships that change the fewest old stays, the first one.
func mostByWords(h api.Harbour, l []api.Call, old []api.Stay) []api.Stay {
	var best []api.Stay
	for p := range plansByWords(h, l) {
		if len(p) > len(best) || len(p) == len(best) && changesByWords(l, old, p) < changesByWords(l, old, best) {
			best = p
		}
	}
	return best
}

// numbersByWords are how many ships a plan leaves over, how many old stays it changes, and for each ship the index of her slot among all slots, which is the greatest one without a stay: the plan that is wanted has the first list.
func numbersByWords(slots []api.Slot, l []api.Call, old, plan []api.Stay) []int {
	numbers := []int{len(l) - len(plan), changesByWords(l, old, plan)}
	for _, c := range l {
		index := len(slots)
		for _, s := range plan {
			if s.Call == c.ID {
				index = slices.Index(slots, s.Slot)
			}
		}
		numbers = append(numbers, index)
	}
	return numbers
}

// offersByWords are for each slot the stays that ships can have there.
func offersByWords(h api.Harbour, l []api.Call) map[api.Slot][]api.Stay {
	offers := map[api.Slot][]api.Stay{}
	for _, c := range l {
		for _, s := range staysByWords(h, c) {
			offers[s.Slot] = append(offers[s.Slot], s)
		}
	}
	return offers
}

// bySlots finds the same for many ships, with the offers of all slots: it goes through the slots, and keeps for each set of ships the first of all ways to berth just these in the slots so far.
func bySlots(slots []api.Slot, offers map[api.Slot][]api.Stay, l []api.Call, old []api.Stay) []api.Stay {
	isBefore := func(a, b []api.Stay) bool {
		return slices.Compare(numbersByWords(slots, l, old, a), numbersByWords(slots, l, old, b)) < 0
	}
	best := map[int][]api.Stay{0: nil}
	for _, x := range slots {
		for set := 1<<len(l) - 1; set >= 0; set-- { // greater sets first: what is added to is of the slots before
			for _, s := range offers[x] {
				bit := 1 << shipOf(l, s.Call)
				p, is := best[set&^bit]
				if set&bit == 0 || !is {
					continue
				}
				p = append(slices.Clone(p), s)
				if q, is := best[set]; !is || isBefore(p, q) {
					best[set] = p
				}
			}
		}
	}
	var first []api.Stay
	for _, p := range best {
		if isBefore(p, first) {
			first = p
		}
	}
	slices.SortFunc(first, func(a, b api.Stay) int { return shipOf(l, a.Call) - shipOf(l, b.Call) })
	return first
}

// slotsByWords lists the slots of a harbour in order.
func slotsByWords(h api.Harbour) []api.Slot {
	var l []api.Slot
	for i := range h.Tides {
		for _, b := range h.Berths {
			l = append(l, slot(i, b.ID))
		}
	}
	return l
}

// shipOf is the index of a ship.
func shipOf(l []api.Call, id int) int {
	return slices.IndexFunc(l, func(c api.Call) bool { return c.ID == id })
}

// isCrowdByWords tells whether a crowd of some ships is formed.
func isCrowdByWords(h api.Harbour, l []api.Call, x api.Crowd) bool {
	var wanted []api.Slot
	for i, id := range x.Calls {
		if shipOf(l, id) < 0 || i > 0 && x.Calls[i-1] >= id {
			return false
		}
		for _, s := range staysByWords(h, l[shipOf(l, id)]) {
			wanted = append(wanted, s.Slot)
		}
	}
	slots := slices.DeleteFunc(slotsByWords(h), func(x api.Slot) bool { return !slices.Contains(wanted, x) })
	return len(x.Calls) > 0 && slices.Equal(x.Slots, slots)
}

// without is a list without the element at an index.
func without[T any](l []T, at int) []T { return slices.Delete(slices.Clone(l), at, at+1) }

// dice rolls numbers, the same ones in each run.
type dice struct{ state uint64 }

func (d *dice) between(lo, hi int) int {
	d.state = d.state*6364136223846793005 + 1442695040888963407
	return lo + int((d.state>>33)%uint64(hi-lo+1))
}

// one tells whether a die of so many sides shows its first one.
func (d *dice) one(sides int) bool { return d.between(1, sides) == 1 }

// shuffled rolls an order of a list.
func shuffled[T any](d *dice, l []T) []T {
	l = slices.Clone(l)
	for i := range l {
		j := d.between(0, i)
		l[i], l[j] = l[j], l[i]
	}
	return l
}

// bounds is how large rolled harbours are: at most so many berths, tides and ships, and minutes of a tide.
type bounds struct{ berths, tides, ships, long int }

// few are harbours whose plans can be gone through, many are as large as can be but for the tides, which are short.
func few() bounds { return bounds{berths: 2, tides: 2, ships: 5, long: 8} }

func many() bounds {
	return bounds{berths: api.MaxBerths, tides: api.MaxTimes, ships: api.MaxCalls, long: 9}
}

// water rolls a water whose heights are small, so that many are the same.
func (d *dice) water() api.Water {
	w := api.Water{Level: d.between(0, 2)}
	for i := range d.between(0, 2) {
		c := api.Cycle{ID: 2 - i, Begin: d.between(0, 9), Every: d.between(1, 4)}
		for range d.between(1, 5) {
			c.Heights = append(c.Heights, d.between(-1, 3))
		}
		w.Cycles = append(w.Cycles, c)
	}
	if d.one(2) {
		w.Shifts = []api.Shift{{From: 1, To: d.between(1, 2), Add: d.between(-3, 3)}}
	}
	return w
}

// harbour rolls a harbour around the end of a day.
func (d *dice) harbour(b bounds) api.Harbour {
	h := api.Harbour{Water: d.water(), Keel: d.between(0, 2)}
	for _, id := range shuffled(d, []int{4, 1, 9, 3, 7, 2})[:d.between(0, b.berths)] {
		h.Berths = append(h.Berths, api.Berth{ID: id, Depth: d.between(0, 4)})
	}
	tick := api.DayTick - d.between(1, b.tides*b.long)
	for range d.between(0, b.tides) {
		tick += d.between(0, 2)
		end := tick + d.between(0, b.long-1)
		h.Tides = append(h.Tides, span(tick, end))
		tick = end + 1
	}
	return h
}

// ship rolls a ship that can mostly take some slots of a harbour.
func (d *dice) ship(id int, h api.Harbour) api.Call {
	c := api.Call{ID: id, Draught: d.between(0, 7), To: api.MaxTick, Long: d.between(1, 5)}
	if len(h.Tides) > 0 && d.one(2) {
		from := h.Tides[d.between(0, len(h.Tides)-1)]
		to := h.Tides[d.between(0, len(h.Tides)-1)]
		c.From = from.Lo + d.between(-1, 2)
		c.To = max(c.From, to.Hi+d.between(-2, 1))
	}
	return c
}

func (d *dice) ships(b bounds, h api.Harbour) []api.Call {
	var l []api.Call
	for _, id := range shuffled(d, []int{15, 3, 11, 8, 21, 1, 30, 5, 9, 2})[:d.between(0, b.ships)] {
		l = append(l, d.ship(id, h))
	}
	return l
}

// old rolls old stays, mostly of the ships that wait, in slots of the harbour.
func (d *dice) old(h api.Harbour, l []api.Call) []api.Stay {
	var old []api.Stay
	for range d.between(0, min(len(l)+1, api.MaxCalls)) {
		x := slot(d.between(0, 12), d.between(1, 9))
		if len(h.Tides)*len(h.Berths) > 0 && !d.one(6) {
			x = slot(d.between(0, len(h.Tides)-1), h.Berths[d.between(0, len(h.Berths)-1)].ID)
		}
		id := d.between(0, 31)
		if len(l) > 0 && !d.one(8) {
			id = l[d.between(0, len(l)-1)].ID
		}
		old = append(old, stay(id, x, d.between(-1, 1), d.between(-1, 1)))
	}
	return old
}

// forHarbours rolls harbours with ships.
func forHarbours(b bounds, times int, what func(d *dice, h api.Harbour, l []api.Call)) {
	d := &dice{state: uint64(b.ships)}
	for range times {
		h := d.harbour(b)
		what(d, h, d.ships(b, h))
	}
}

// leases rolls leases: at most so many, with minutes up to last.
func (d *dice) leases(most, heaps, last int) []api.Lease {
	var l []api.Lease
	for i := range d.between(0, most) {
		from := d.between(0, last)
		l = append(l, lease((i*17)%41+1, d.between(1, heaps), from, d.between(from, min(last, from+last/2))))
	}
	return l
}

// good fails unless a call had no error.
func good(t *testing.T, e api.Errno, about ...any) {
	t.Helper()
	if e != api.OK {
		t.Fatal("error", e, about)
	}
}

func equal[T comparable](t *testing.T, got, want T, about ...any) {
	t.Helper()
	if got != want {
		t.Fatal("got", got, "want", want, about)
	}
}

func sameList[T comparable](t *testing.T, got, want []T, about ...any) {
	t.Helper()
	if !slices.Equal(got, want) {
		t.Fatal("got", got, "want", want, about)
	}
}

// enough fails unless each of some things was met so often: the rolled harbours would say too little otherwise.
func enough[T comparable](t *testing.T, met map[T]int, times int, things ...T) {
	t.Helper()
	for _, x := range things {
		if met[x] < times {
			t.Fatal("met", met[x], "times:", x)
		}
	}
}

// planOf asks for a plan.
func planOf(t *testing.T, h api.Harbour, l []api.Call) []api.Stay {
	t.Helper()
	p, e := berth.Plan(h, l)
	good(t, e, h, l)
	return p
}

func mostOf(t *testing.T, h api.Harbour, l []api.Call) int {
	t.Helper()
	n, e := berth.Most(h, l)
	good(t, e, h, l)
	return n
}
