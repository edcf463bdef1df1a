package berth_test

import (
	"slices"
	"testing"

	"kentledge/api"
	"kentledge/berth"
)

// wrongHarbour is the harbour of the examples with something that is wrong.
type wrongHarbour struct {
	name string
	do   func(h *api.Harbour)
	want api.Errno
}

func wrongHarbours() []wrongHarbour {
	badTides := func(h *api.Harbour) { h.Tides = []api.Span{span(5, 4)} }
	list := []wrongHarbour{
		{"the level", func(h *api.Harbour) { h.Water.Level = api.MaxTide + 1 }, api.ErrArg},
		{"seven cycles", func(h *api.Harbour) { h.Water.Cycles = make([]api.Cycle, 7) }, api.ErrLimit},
		{"a cycle twice", func(h *api.Harbour) { h.Water.Cycles = append(h.Water.Cycles, h.Water.Cycles[0]) }, api.ErrTwice},
		{"a cycle twice, and seven berths", func(h *api.Harbour) {
			h.Water.Cycles, h.Berths = append(h.Water.Cycles, h.Water.Cycles[0]), make([]api.Berth, 7)
		}, api.ErrTwice},
		{"the level, and 13 tides", func(h *api.Harbour) { h.Water.Level, h.Tides = -api.MaxTide-1, make([]api.Span, 13) }, api.ErrArg},
		{"seven berths", func(h *api.Harbour) { h.Berths = make([]api.Berth, 7) }, api.ErrLimit},
		{"13 tides", func(h *api.Harbour) { h.Tides = make([]api.Span, 13) }, api.ErrLimit},
		{"13 tides, and a wrong berth", func(h *api.Harbour) { h.Tides, h.Berths[0].ID = make([]api.Span, 13), 0 }, api.ErrLimit},
		{"13 tides, and a berth twice", func(h *api.Harbour) { h.Tides, h.Berths[1].ID = make([]api.Span, 13), 1 }, api.ErrLimit},
		{"a berth twice", func(h *api.Harbour) { h.Berths[1].ID = 1 }, api.ErrTwice},
		{"a berth twice, wrong", func(h *api.Harbour) { h.Berths[1] = api.Berth{ID: 1, Depth: -1} }, api.ErrArg},
		{"a berth twice, ahead of a wrong one", func(h *api.Harbour) { h.Berths = []api.Berth{{ID: 1}, {ID: 1}, {}} }, api.ErrTwice},
		{"a berth twice, behind a wrong one", func(h *api.Harbour) { h.Berths = []api.Berth{{ID: 1}, {}, {ID: 1}} }, api.ErrArg},
		{"a berth twice, and a wrong tide", func(h *api.Harbour) { h.Berths[1].ID = 1; badTides(h) }, api.ErrTwice},
		{"a berth twice, and the keel", func(h *api.Harbour) { h.Berths[1].ID, h.Keel = 1, -1 }, api.ErrTwice},
		{"tides that have a minute in common", func(h *api.Harbour) { h.Tides[1].Lo = 239 }, api.ErrArg},
		{"tides the wrong way round", func(h *api.Harbour) { slices.Reverse(h.Tides) }, api.ErrArg},
		{"a tide twice", func(h *api.Harbour) { h.Tides[1] = h.Tides[0] }, api.ErrArg},
		{"a tide within another one", func(h *api.Harbour) { h.Tides[1] = span(5, 6) }, api.ErrArg},
		{"a tide that begins before minute 0", func(h *api.Harbour) { h.Tides[0].Lo = -1 }, api.ErrArg},
		{"a tide that is too long", func(h *api.Harbour) { h.Tides[1] = span(240, 240+api.MaxStay) }, api.ErrArg},
	}
	for _, n := range []int{0, -1, api.MaxID + 1, minInt, maxInt} {
		list = append(list, wrongHarbour{"the ID of a berth", func(h *api.Harbour) { h.Berths[1].ID = n }, api.ErrArg})
	}
	for _, n := range []int{-1, api.MaxDeep + 1, minInt, maxInt} {
		list = append(list,
			wrongHarbour{"the depth of a berth", func(h *api.Harbour) { h.Berths[1].Depth = n }, api.ErrArg},
			wrongHarbour{"the keel", func(h *api.Harbour) { h.Keel = n }, api.ErrArg})
	}
	for _, s := range wrongSpans() {
		list = append(list, wrongHarbour{"a tide", func(h *api.Harbour) { h.Tides = []api.Span{s} }, api.ErrArg})
	}
	return list
}

// wrongSpans are no spans, or not within the minutes that there are.
func wrongSpans() []api.Span {
	return []api.Span{span(5, 4), span(-1, 5), span(-2, -1), span(api.MaxTick, api.MaxTick+1), span(api.MaxTick+1, api.MaxTick+1), span(1, 0), span(minInt, maxInt), span(maxInt, minInt), span(0, maxInt), span(minInt, 0), span(minInt, minInt), span(maxInt, maxInt)}
}

// P6.1: valid harbours, as large as can be among them.
func TestCheckOfValidHarbours(t *testing.T) {
	for i, h := range []api.Harbour{
		{}, example(), full(),
		changed(func(h *api.Harbour) { h.Keel = 0 }),
		changed(func(h *api.Harbour) { h.Keel = api.MaxDeep }),
		changed(func(h *api.Harbour) { h.Berths[0] = api.Berth{ID: api.MaxID, Depth: api.MaxDeep} }),
		changed(func(h *api.Harbour) { h.Berths[0].Depth = 0 }),
		changed(func(h *api.Harbour) { h.Berths = nil }),
		changed(func(h *api.Harbour) { h.Tides = nil }),
		changed(func(h *api.Harbour) { slices.Reverse(h.Berths) }),
		changed(func(h *api.Harbour) { h.Tides = []api.Span{span(0, 0), span(1, 1), span(api.MaxTick, api.MaxTick)} }),
		changed(func(h *api.Harbour) {
			h.Tides = []api.Span{span(0, api.MaxStay-1), span(api.MaxStay, 2*api.MaxStay-1)}
		}),
	} {
		equal(t, berth.Check(h), api.OK, i)
		equal(t, berth.CheckCalls(h, nil), api.OK, i)
	}
}

// P6.1, R3: each error of a harbour, and their order.
func TestCheckOfWrongHarbours(t *testing.T) {
	for _, x := range wrongHarbours() {
		equal(t, berth.Check(changed(x.do)), x.want, x.name)
	}
	for _, do := range []func(h *api.Harbour){
		func(h *api.Harbour) { h.Berths = append(h.Berths, api.Berth{ID: 1}) },
		func(h *api.Harbour) {
			h.Tides = append(h.Tides[:11:11], span(api.MaxTick-5, api.MaxTick-5), h.Tides[11])
		},
	} {
		h := full()
		do(&h)
		equal(t, berth.Check(h), api.ErrLimit)
	}
}

// wrongCall is a ship with something that is wrong.
type wrongCall struct {
	name string
	do   func(c *api.Call)
}

func wrongCalls() []wrongCall {
	var list []wrongCall
	for _, n := range []int{0, -1, api.MaxID + 1, minInt, maxInt} {
		list = append(list, wrongCall{"ID", func(c *api.Call) { c.ID = n }})
	}
	for _, n := range []int{-1, api.MaxDeep + 1, minInt, maxInt} {
		list = append(list, wrongCall{"Draught", func(c *api.Call) { c.Draught = n }})
	}
	for _, n := range []int{0, -1, api.MaxStay + 1, minInt, maxInt} {
		list = append(list, wrongCall{"Long", func(c *api.Call) { c.Long = n }})
	}
	for _, s := range wrongSpans() {
		list = append(list, wrongCall{"From and To", func(c *api.Call) { c.From, c.To = s.Lo, s.Hi }})
	}
	return list
}

// spoiled is a ship of the examples with something that is wrong.
func spoiled(id int, x wrongCall) api.Call {
	c := brig(id)
	x.do(&c)
	return c
}

// P6.1: ships that wait, as many as can be among them.
func TestCheckCalls(t *testing.T) {
	for i, l := range [][]api.Call{
		nil, brigs(1), brigs(5), brigs(api.MaxCalls), fleet(),
		{{ID: 1, Long: 1}},
		{{ID: api.MaxID, Draught: api.MaxDeep, From: api.MaxTick, To: api.MaxTick, Long: api.MaxStay}, {ID: 1, To: api.MaxTick, Long: 1}},
	} {
		equal(t, berth.CheckCalls(example(), l), api.OK, i)
		equal(t, berth.CheckCalls(api.Harbour{}, l), api.OK, i)
	}
	for _, x := range wrongCalls() {
		equal(t, berth.CheckCalls(example(), []api.Call{spoiled(1, x)}), api.ErrArg, x.name)
		equal(t, berth.CheckCalls(example(), append(brigs(2), spoiled(1, x))), api.ErrArg, x.name)
	}
}

// P6.1, R3: the order of the errors of ships.
func TestOrderOfErrorsOfCheckCalls(t *testing.T) {
	bad := brig(1)
	bad.Draught = -1
	again := brig(11)
	both := again
	both.Long = 0
	for i, x := range []struct {
		l    []api.Call
		want api.Errno
	}{
		{brigs(11), api.ErrLimit},
		{append([]api.Call{bad}, brigs(10)...), api.ErrLimit},
		{append([]api.Call{again}, brigs(10)...), api.ErrLimit},
		{append(brigs(9), again), api.ErrTwice},
		{append(brigs(2), again, bad), api.ErrTwice},
		{append(brigs(2), bad, again), api.ErrArg},
		{append(brigs(2), both), api.ErrArg},
		{append(brigs(2), again, both), api.ErrTwice},
	} {
		equal(t, berth.CheckCalls(example(), x.l), x.want, i)
	}
}
