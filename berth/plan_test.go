package berth_test

import (
	"slices"
	"testing"

	"kentledge/api"
	"kentledge/berth"
)

// three is the plan of the chapter's examples.
func three() []api.Stay {
	return []api.Stay{stay(11, slot(0, 1), 0, 59), stay(12, slot(0, 2), 120, 179), stay(13, slot(1, 1), 240, 299)}
}

// P6.4, P6.5: the chapter's examples.
func TestExamplesOfPlans(t *testing.T) {
	h := example()
	sameList(t, planOf(t, h, brigs(3)), three())
	equal(t, berth.CheckPlan(h, brigs(3), three()), api.OK)
	equal(t, mostOf(t, h, brigs(3)), 3)
	x, is, e := berth.Full(h, brigs(5))
	good(t, e)
	equal(t, is, true)
	sameList(t, x.Calls, []int{11, 12, 13, 14, 15})
	sameList(t, x.Slots, []api.Slot{slot(0, 1), slot(0, 2), slot(1, 1), slot(1, 2)})
}

// P6.4 to P6.7: of small harbours, by going through all plans.
func TestPlansOfSmallHarbours(t *testing.T) {
	met := map[int]int{}
	forHarbours(few(), 4000, func(d *dice, h api.Harbour, l []api.Call) {
		want := mostByWords(h, l, nil)
		sameList(t, planOf(t, h, l), want, h, l)
		equal(t, mostOf(t, h, l), len(want), h, l)
		over := len(l) - len(want)
		met[over]++
		x, is, e := berth.Full(h, l)
		good(t, e, h, l)
		equal(t, is, over > 0, h, l)
		if is {
			equal(t, isCrowdByWords(h, l, x), true, h, l, x)
			equal(t, len(x.Calls)-len(x.Slots), over, h, l, x)
		} else {
			equal(t, len(x.Calls)+len(x.Slots), 0, h, l, x)
		}
		sure, e := berth.Sure(h, l)
		good(t, e, h, l)
		sameList(t, sure, sureByWords(h, l), h, l)
		for range 3 {
			old := d.old(h, l)
			p, e := berth.Change(h, l, old)
			good(t, e, h, l, old)
			sameList(t, p, mostByWords(h, l, old), h, l, old)
		}
	})
	enough(t, met, 50, 0, 1, 2, 3, 4)
}

// sureByWords are the ships that have a stay in all plans with the most ships.
func sureByWords(h api.Harbour, l []api.Call) []int {
	most := len(mostByWords(h, l, nil))
	berthed := map[int]int{}
	plans := 0
	for p := range plansByWords(h, l) {
		if len(p) < most {
			continue
		}
		plans++
		for _, s := range p {
			berthed[s.Call]++
		}
	}
	var ids []int
	for id, n := range berthed {
		if n == plans {
			ids = append(ids, id)
		}
	}
	slices.Sort(ids)
	return ids
}

// scarce is how large rolled harbours are in which ten ships come for few slots, so that long ways of moves are needed.
func scarce() bounds { return bounds{berths: 3, tides: 3, ships: api.MaxCalls, long: 7} }

// P6.4, P6.5, P6.7: of harbours that are large, or whose slots are scarce, by going through sets of ships.
func TestPlansOfLargeHarbours(t *testing.T) {
	over, berthed := map[bool]int{}, map[int]int{}
	compare := func(d *dice, h api.Harbour, l []api.Call) {
		slots, offers := slotsByWords(h), offersByWords(h, l)
		p := planOf(t, h, l)
		sameList(t, p, bySlots(slots, offers, l, nil), h, l)
		equal(t, mostOf(t, h, l), len(p), h, l)
		x, is, e := berth.Full(h, l)
		good(t, e, h, l)
		equal(t, is, len(p) < len(l), h, l)
		if is {
			equal(t, isCrowdByWords(h, l, x), true, h, l, x)
			equal(t, len(x.Calls)-len(x.Slots), len(l)-len(p), h, l, x)
		}
		old := d.old(h, l)
		q, e := berth.Change(h, l, old)
		good(t, e, h, l, old)
		sameList(t, q, bySlots(slots, offers, l, old), h, l, old)
		over[is]++
		berthed[len(p)]++
	}
	forHarbours(many(), 500, compare)
	enough(t, over, 50, true, false)
	forHarbours(scarce(), 4000, compare)
	enough(t, berthed, 10, 0, 1, 2, 3, 4, 5, 6)
}

// P6.4: CheckPlan accepts each plan, and nothing else: each plan is changed in some way.
func TestCheckPlan(t *testing.T) {
	met := map[api.Errno]int{}
	forHarbours(few(), 300, func(d *dice, h api.Harbour, l []api.Call) {
		var plans [][]api.Stay
		for p := range plansByWords(h, l) {
			equal(t, berth.CheckPlan(h, l, p), api.OK, h, l, p)
			plans = append(plans, p)
		}
		isPlan := func(p []api.Stay) bool {
			return slices.ContainsFunc(plans, func(q []api.Stay) bool { return slices.Equal(p, q) })
		}
		for range 20 {
			p := d.other(h, l, plans[d.between(0, len(plans)-1)])
			want := api.OK
			if !isPlan(p) {
				want = api.ErrProof
			}
			equal(t, berth.CheckPlan(h, l, p), want, h, l, p)
			met[want]++
		}
	})
	enough(t, met, 300, api.OK, api.ErrProof)
}

// other rolls a plan that differs in something.
func (d *dice) other(h api.Harbour, l []api.Call, p []api.Stay) []api.Stay {
	p = slices.Clone(p)
	if len(p) == 0 || d.one(6) {
		return append(p, d.old(h, l)...)
	}
	i, j := d.between(0, len(p)-1), d.between(0, len(p)-1)
	switch d.between(0, 6) {
	case 0:
		p[i].Span.Lo += d.between(-1, 1)
	case 1:
		p[i].Span.Hi += d.between(-1, 1)
	case 2:
		p[i].Slot.Tide += d.between(-1, 1)
	case 3:
		p[i].Slot, p[i].Span = p[j].Slot, p[j].Span
	case 4:
		p[i], p[j] = p[j], p[i]
	case 5:
		p = slices.Delete(p, i, i+1)
	case 6:
		p[i].Call = l[d.between(0, len(l)-1)].ID
	}
	return p
}

// P6.4: what no plan is.
func TestCheckPlanOfNone(t *testing.T) {
	h, p := example(), three()
	with := func(do func(p []api.Stay)) []api.Stay {
		q := three()
		do(q)
		return q
	}
	for i, q := range [][]api.Stay{
		{p[1], p[0]}, {p[0], p[0]}, {p[0], p[1], p[2], p[2]}, {p[2], p[1], p[0]},
		{stay(11, slot(0, 1), 0, 60)}, {stay(11, slot(0, 1), 1, 60)}, {stay(11, slot(0, 1), 0, 58)}, {stay(11, slot(0, 1), 240, 299)}, {was(11, slot(0, 1))},
		{stay(14, slot(0, 1), 0, 59)}, {stay(0, slot(0, 1), 0, 59)}, {stay(minInt, slot(0, 1), 0, 59)}, {{}},
		{was(11, slot(-1, 11))}, {was(11, slot(-1, 0))}, {was(11, slot(2, 1))}, {was(11, slot(minInt, 1))}, {was(11, slot(maxInt, maxInt))}, {stay(11, slot(0, 3), 0, 59)}, {stay(11, slot(0, 0), 0, 59)},
		with(func(p []api.Stay) { p[1].Slot, p[1].Span = p[0].Slot, p[0].Span }),
		with(func(p []api.Stay) { p[2].Slot, p[2].Span = p[0].Slot, p[0].Span }),
		with(func(p []api.Stay) { p[1].Call = 11 }),
		with(func(p []api.Stay) { p[1].Call, p[2].Call = 13, 12 }),
		make([]api.Stay, 11),
	} {
		equal(t, berth.CheckPlan(h, brigs(3), q), api.ErrProof, i)
	}
	for i, q := range [][]api.Stay{nil, {}, p[:1], p[:2], p[1:], {p[0], p[2]}, {stay(12, slot(0, 1), 0, 59), stay(13, slot(0, 2), 120, 179)}, {stay(11, slot(1, 2), 360, 419)}} {
		equal(t, berth.CheckPlan(h, brigs(3), q), api.OK, i)
	}
	equal(t, berth.CheckPlan(h, nil, nil), api.OK)
	equal(t, berth.CheckPlan(h, nil, p[:1]), api.ErrProof)
}

// P6.4: ships are taken in their order, not in that of their IDs; and no stay is worse than each slot, but for the ships that follow.
func TestOrderOfPlans(t *testing.T) {
	h := example()
	deep, short, late := brig(30), brig(20), brig(10)
	deep.Draught = 850                 // at the berth 1 only, from 60 on
	short.To = 59                      // at the berth 1 only, at the first tide
	late.From, late.Draught = 240, 850 // at the berth 1 only, at the second tide
	sameList(t, planOf(t, h, []api.Call{deep, short}), []api.Stay{stay(30, slot(1, 1), 300, 359), stay(20, slot(0, 1), 0, 59)})
	sameList(t, planOf(t, h, []api.Call{short, deep}), []api.Stay{stay(20, slot(0, 1), 0, 59), stay(30, slot(1, 1), 300, 359)})
	sameList(t, planOf(t, h, []api.Call{deep, late, short}), []api.Stay{stay(30, slot(0, 1), 60, 119), stay(10, slot(1, 1), 300, 359)})
	sameList(t, planOf(t, h, []api.Call{late, deep, short}), []api.Stay{stay(10, slot(1, 1), 300, 359), stay(30, slot(0, 1), 60, 119)})
	sameList(t, planOf(t, h, []api.Call{short, late, deep}), []api.Stay{stay(20, slot(0, 1), 0, 59), stay(10, slot(1, 1), 300, 359)})
	slices.Reverse(h.Berths) // slots are in the order of the berths, not of their IDs
	sameList(t, planOf(t, h, brigs(2)), []api.Stay{stay(11, slot(0, 2), 120, 179), stay(12, slot(0, 1), 0, 59)})
}

// P6.4 to P6.7: without ships, berths or tides there is nothing.
func TestPlansOfNothing(t *testing.T) {
	for i, h := range []api.Harbour{{}, changed(func(h *api.Harbour) { h.Berths = nil }), changed(func(h *api.Harbour) { h.Tides = nil }), changed(func(h *api.Harbour) { h.Keel = api.MaxDeep })} {
		equal(t, len(planOf(t, h, brigs(3))), 0, i)
		equal(t, mostOf(t, h, brigs(3)), 0, i)
		sure, e := berth.Sure(h, brigs(3))
		good(t, e, i)
		equal(t, len(sure), 0, i)
		x, is, e := berth.Full(h, brigs(3))
		good(t, e, i)
		equal(t, is, true, i)
		sameList(t, x.Calls, []int{11, 12, 13}, i)
		equal(t, len(x.Slots), 0, i)
		n, e := berth.CheckFull(h, brigs(3), api.Crowd{Calls: []int{12}})
		good(t, e, i)
		equal(t, n, 1, i)
		p, e := berth.Change(h, brigs(3), three())
		good(t, e, i)
		equal(t, len(p), 0, i)
	}
	for i, h := range []api.Harbour{{}, example(), full()} {
		equal(t, len(planOf(t, h, nil)), 0, i)
		equal(t, mostOf(t, h, nil), 0, i)
		sure, e := berth.Sure(h, nil)
		good(t, e, i)
		equal(t, len(sure), 0, i)
		x, is, e := berth.Full(h, nil)
		good(t, e, i)
		equal(t, is, false, i)
		equal(t, len(x.Calls)+len(x.Slots), 0, i)
		n, e := berth.CheckFull(h, nil, api.Crowd{})
		equal(t, e, api.ErrProof, i)
		equal(t, n, 0, i)
		p, e := berth.Change(h, nil, three())
		good(t, e, i)
		equal(t, len(p), 0, i)
	}
}

// crowds lists the crowds of all sets of ships, formed or nearly so.
func (d *dice) crowds(h api.Harbour, l []api.Call) []api.Crowd {
	var list []api.Crowd
	for set := range 1 << len(l) {
		var x api.Crowd
		var wanted []api.Slot
		for i, c := range l {
			if set>>i&1 == 1 {
				x.Calls = append(x.Calls, c.ID)
				for _, s := range staysByWords(h, c) {
					wanted = append(wanted, s.Slot)
				}
			}
		}
		slices.Sort(x.Calls)
		for _, s := range slotsByWords(h) {
			if slices.Contains(wanted, s) {
				x.Slots = append(x.Slots, s)
			}
		}
		list = append(list, x, d.nearly(h, l, x))
	}
	return list
}

// nearly rolls a crowd in which something differs.
func (d *dice) nearly(h api.Harbour, l []api.Call, x api.Crowd) api.Crowd {
	x = api.Crowd{Calls: slices.Clone(x.Calls), Slots: slices.Clone(x.Slots)}
	switch d.between(0, 6) {
	case 0:
		x.Calls = append(x.Calls, d.between(0, 40))
	case 1:
		x.Calls = append(x.Calls, x.Calls...)
	case 2:
		x.Calls = shuffled(d, x.Calls)
	case 3:
		x.Slots = shuffled(d, x.Slots)
	case 4:
		x.Slots = x.Slots[:max(0, len(x.Slots)-1)]
	case 5:
		x.Slots = append(x.Slots, slot(d.between(-1, 2), d.between(0, 9)))
	case 6:
		if len(x.Slots) > 0 {
			x.Slots[0].Berth = d.between(1, 9)
		}
	}
	return x
}

// P6.5: CheckFull, for all sets of ships, and for what is nearly formed.
func TestCheckFullByWords(t *testing.T) {
	met := map[int]int{}
	forHarbours(few(), 400, func(d *dice, h api.Harbour, l []api.Call) {
		for _, x := range d.crowds(h, l) {
			over := len(x.Calls) - len(x.Slots)
			n, e := berth.CheckFull(h, l, x)
			if over < 1 || !isCrowdByWords(h, l, x) {
				equal(t, e, api.ErrProof, h, l, x)
				over = 0
			} else {
				good(t, e, h, l, x)
			}
			equal(t, n, over, h, l, x)
			met[n]++
		}
	})
	enough(t, met, 20, 0, 1, 2, 3, 4)
}

// P6.5: crowds that are not formed, or show nothing.
func TestCheckFullOfNone(t *testing.T) {
	h := example()
	four := []api.Slot{slot(0, 1), slot(0, 2), slot(1, 1), slot(1, 2)}
	five := []int{11, 12, 13, 14, 15}
	for i, x := range []api.Crowd{
		{}, {Calls: five}, {Slots: four}, {Calls: five, Slots: four[:3]}, {Calls: five, Slots: four[1:]}, {Calls: five[:4], Slots: four}, {Calls: five[:3], Slots: four},
		{Calls: []int{15, 14, 13, 12, 11}, Slots: four}, {Calls: []int{11, 12, 13, 14, 14}, Slots: four}, {Calls: []int{11, 11, 11, 11, 11}, Slots: four}, {Calls: []int{11, 12, 14, 13, 15}, Slots: four},
		{Calls: []int{10, 12, 13, 14, 15}, Slots: four}, {Calls: []int{11, 12, 13, 14, 16}, Slots: four}, {Calls: []int{minInt, 11, 12, 13, 14, 15}, Slots: four}, {Calls: []int{11, 12, 13, 14, 15, maxInt}, Slots: four}, {Calls: []int{0, 11, 12, 13, 14}, Slots: four},
		{Calls: five, Slots: []api.Slot{four[0], four[2], four[1], four[3]}}, {Calls: five, Slots: []api.Slot{four[0], four[1], four[2], four[2]}}, {Calls: five, Slots: []api.Slot{four[0], four[1], four[2], slot(1, 3)}},
	} {
		n, e := berth.CheckFull(h, brigs(5), x)
		equal(t, e, api.ErrProof, i)
		equal(t, n, 0, i)
	}
	n, e := berth.CheckFull(h, brigs(5), api.Crowd{Calls: five, Slots: four})
	good(t, e)
	equal(t, n, 1)
	n, e = berth.CheckFull(h, brigs(9), api.Crowd{Calls: []int{11, 13, 14, 16, 17, 18, 19}, Slots: four})
	good(t, e)
	equal(t, n, 3)
}

// P6.6: a ship that only one slot is left for is sure if nobody else must have it.
func TestSure(t *testing.T) {
	h := example()
	h.Tides = h.Tides[:1]
	deep, short := brig(30), brig(20)
	deep.Draught, short.Draught, short.To = 850, 850, 200 // both at the berth 1 only
	for i, x := range []struct {
		l    []api.Call
		want []int
	}{
		{[]api.Call{deep}, []int{30}},
		{[]api.Call{deep, short}, nil},
		{[]api.Call{deep, short, brig(25)}, []int{25}},
		{[]api.Call{brig(25), deep, short, brig(7)}, nil},
		{[]api.Call{brig(25), deep}, []int{25, 30}},
		{[]api.Call{deep, brig(25), brig(7)}, nil},
	} {
		ids, e := berth.Sure(h, x.l)
		good(t, e, i)
		sameList(t, ids, x.want, i)
	}
}

// P6.7: the first old stay of a ship counts; an old stay that she cannot have, or that somebody else must have, is changed.
func TestChange(t *testing.T) {
	h := example()
	a, b, c, d := slot(0, 1), slot(0, 2), slot(1, 1), slot(1, 2)
	short := brig(14)
	short.To = 59
	for i, x := range []struct {
		l    []api.Call
		old  []api.Stay
		want []api.Slot
	}{
		{brigs(3), nil, []api.Slot{a, b, c}},
		{brigs(3), []api.Stay{was(13, a), was(12, d)}, []api.Slot{b, d, a}},
		{brigs(3), []api.Stay{was(11, d)}, []api.Slot{d, a, b}},
		{brigs(3), []api.Stay{was(11, d), was(11, a)}, []api.Slot{d, a, b}},
		{brigs(3), []api.Stay{was(11, slot(2, 1)), was(11, d)}, []api.Slot{a, b, c}},
		{brigs(3), []api.Stay{was(11, slot(0, 3)), was(12, a)}, []api.Slot{b, a, c}},
		{brigs(3), []api.Stay{was(11, slot(-1, 11)), was(12, slot(-1, 0)), was(13, slot(0, 0))}, []api.Slot{a, b, c}},
		{brigs(3), []api.Stay{was(12, a), was(13, a)}, []api.Slot{b, a, c}},
		{brigs(3), []api.Stay{was(13, b), was(12, b)}, []api.Slot{a, b, c}},
		{brigs(3), []api.Stay{was(99, a), was(0, b), was(-5, c)}, []api.Slot{a, b, c}},
		{append(brigs(3), short), []api.Stay{was(11, a), was(12, c)}, []api.Slot{b, c, d, a}},
		{append(brigs(3), short), []api.Stay{was(14, b), was(12, c)}, []api.Slot{b, c, d, a}},
		{brigs(5), []api.Stay{was(15, a)}, []api.Slot{b, c, d, {}, a}},
		{brigs(5), []api.Stay{was(15, a), was(14, b)}, []api.Slot{c, d, {}, b, a}},
		{brigs(5), []api.Stay{was(15, a), was(14, a)}, []api.Slot{b, c, d, a}},
		{brigs(5), []api.Stay{was(15, d), was(14, c), was(13, b), was(12, a)}, []api.Slot{{}, a, b, c, d}},
	} {
		p, e := berth.Change(h, x.l, x.old)
		good(t, e, i)
		var want []api.Stay
		for k, s := range x.want {
			if s != (api.Slot{}) {
				minutes, _, e := berth.When(h, x.l[k], s)
				good(t, e, i)
				want = append(want, api.Stay{Call: x.l[k].ID, Slot: s, Span: minutes})
			}
		}
		sameList(t, p, want, i)
	}
}

// P6.7: so many old stays can be given, whatever they are.
func TestLimitOfChange(t *testing.T) {
	var old []api.Stay
	for i := range api.MaxCalls {
		old = append(old, stay(minInt+i, slot(maxInt, minInt), maxInt, minInt))
	}
	p, e := berth.Change(example(), brigs(3), old)
	good(t, e)
	sameList(t, p, three())
	p, e = berth.Change(example(), brigs(3), append(old, api.Stay{}))
	equal(t, e, api.ErrLimit)
	equal(t, len(p), 0)
	_, e = berth.Change(example(), append(brigs(3), brig(11)), append(old, api.Stay{}))
	equal(t, e, api.ErrTwice)
	_, e = berth.Change(example(), append(brigs(3), api.Call{}), append(old, api.Stay{}))
	equal(t, e, api.ErrArg)
}

// P6.7: Changed, for what the first stays of both lists are.
func TestChanged(t *testing.T) {
	a, b, c, d := slot(0, 1), slot(0, 2), slot(1, 1), slot(-7, maxInt)
	for i, x := range []struct {
		old, now []api.Stay
		want     []int
	}{
		{nil, nil, nil},
		{nil, []api.Stay{was(1, a)}, nil},
		{[]api.Stay{was(1, a)}, nil, []int{1}},
		{[]api.Stay{was(1, a)}, []api.Stay{was(1, a)}, nil},
		{[]api.Stay{was(1, a)}, []api.Stay{was(1, b)}, []int{1}},
		{[]api.Stay{was(1, a)}, []api.Stay{was(1, c)}, []int{1}},
		{[]api.Stay{was(1, a)}, []api.Stay{was(2, a)}, []int{1}},
		{[]api.Stay{stay(1, a, 5, 6)}, []api.Stay{stay(1, a, 7, 9)}, nil},
		{[]api.Stay{was(1, a), was(1, b)}, []api.Stay{was(1, a)}, nil},
		{[]api.Stay{was(1, a), was(1, b)}, []api.Stay{was(1, b)}, []int{1}},
		{[]api.Stay{was(1, a), was(1, b)}, []api.Stay{was(1, b), was(1, a)}, []int{1}},
		{[]api.Stay{was(1, a)}, []api.Stay{was(1, b), was(1, a)}, []int{1}},
		{[]api.Stay{was(1, a)}, []api.Stay{was(1, a), was(1, b)}, nil},
		{[]api.Stay{was(9, a), was(3, b), was(9, a), was(5, c)}, []api.Stay{was(3, b)}, []int{5, 9}},
		{[]api.Stay{was(0, api.Slot{})}, nil, []int{0}},
		{[]api.Stay{was(0, api.Slot{})}, []api.Stay{was(1, api.Slot{})}, []int{0}},
		{[]api.Stay{was(maxInt, d), was(minInt, d), was(-1, d)}, []api.Stay{was(-1, d)}, []int{minInt, maxInt}},
		{[]api.Stay{was(13, a), was(12, d)}, three(), []int{12, 13}},
	} {
		sameList(t, berth.Changed(x.old, x.now), x.want, i)
	}
	var long, want []api.Stay
	for i := range 50000 { // there is no limit
		long = append(long, was(-i, a))
		want = append(want, was(-i, slot(i%2, 1)))
	}
	ids := berth.Changed(long, want)
	equal(t, len(ids), 25000)
	equal(t, slices.IsSorted(ids), true)
}

// P6.7: Changed, by its words, for lists of few ships and slots.
func TestChangedByWords(t *testing.T) {
	d := &dice{state: 5}
	roll := func() []api.Stay {
		var l []api.Stay
		for range d.between(0, 5) {
			l = append(l, stay(d.between(1, 4), slot(0, d.between(1, 2)), d.between(0, 1), d.between(0, 1)))
		}
		return l
	}
	met := map[int]int{}
	for range 2000 {
		old, now := roll(), roll()
		firstOf := func(l []api.Stay, id int) int {
			return slices.IndexFunc(l, func(s api.Stay) bool { return s.Call == id })
		}
		var want []int
		for id := 1; id <= 4; id++ {
			i, j := firstOf(old, id), firstOf(now, id)
			if i >= 0 && (j < 0 || old[i].Slot != now[j].Slot) {
				want = append(want, id)
			}
		}
		sameList(t, berth.Changed(old, now), want, old, now)
		met[len(want)]++
	}
	enough(t, met, 50, 0, 1, 2, 3)
}

// P6.4, P6.5, P6.7: as many berths, tides, minutes and ships as can be, for ships of which some can hardly lie anywhere.
func TestPlansOfTheFullHarbour(t *testing.T) {
	h := full()
	met := map[bool]int{}
	for draught := 7000; draught <= 7600; draught += 150 {
		l := fleet()
		var old []api.Stay
		for i := range l {
			l[i] = api.Call{ID: l[i].ID, Draught: draught + 20*i%70, To: api.MaxTick, Long: 14 + i%3}
			old = append(old, was(l[i].ID, slot(i*7%12, api.MaxID-i*5%7)))
		}
		slots, offers := slotsByWords(h), offersByWords(h, l)
		p := planOf(t, h, l)
		sameList(t, p, bySlots(slots, offers, l, nil), draught)
		equal(t, berth.CheckPlan(h, l, p), api.OK, draught)
		q, e := berth.Change(h, l, old)
		good(t, e)
		sameList(t, q, bySlots(slots, offers, l, old), draught)
		x, is, e := berth.Full(h, l)
		good(t, e)
		equal(t, is, len(p) < len(l), draught)
		if is {
			n, e := berth.CheckFull(h, l, x)
			good(t, e)
			equal(t, n, len(l)-len(p), draught)
		}
		met[is]++
	}
	enough(t, met, 2, true, false)
}
