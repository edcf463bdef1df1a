package flow_test

import (
	"slices"
	"testing"

	"kentledge/api"
	"kentledge/flow"
)

// mergedByWords is the trade in which a stands for a and b.
func mergedByWords(x api.Trade, a, b int) api.Trade {
	var y api.Trade
	for _, h := range x.Holders {
		if h.ID == a {
			for _, g := range x.Holders {
				if g.ID == b {
					h.Start.Lo, h.Start.Hi = h.Start.Lo+g.Start.Lo, h.Start.Hi+g.Start.Hi
					h.End.Lo, h.End.Hi = h.End.Lo+g.End.Lo, h.End.Hi+g.End.Hi
					h.Booked += g.Booked
				}
			}
		}
		if h.ID != b {
			y.Holders = append(y.Holders, h)
		}
	}
	for _, m := range x.Moves {
		if slices.Contains([]int{a, b}, m.From) && slices.Contains([]int{a, b}, m.To) {
			continue
		}
		if m.From == b {
			m.From = a
		}
		if m.To == b {
			m.To = a
		}
		y.Moves = append(y.Moves, m)
	}
	return y
}

// P5.9: two holders of the trade of the examples as one, in each way.
func TestMergedOfTheExample(t *testing.T) {
	for _, k := range []struct {
		a, b int
		want api.Trade
	}{
		{1, 2, api.Trade{
			Holders: []api.Holder{holder(1, at(100), span(40, 60), 60), holder(3, span(10, 20), span(50, 70), 50)},
			Moves:   []api.Move{move(8, 1, 3, span(35, 60)), move(9, 1, 3, at(30))},
		}},
		{2, 1, api.Trade{
			Holders: []api.Holder{holder(2, at(100), span(40, 60), 60), holder(3, span(10, 20), span(50, 70), 50)},
			Moves:   []api.Move{move(8, 2, 3, span(35, 60)), move(9, 2, 3, at(30))},
		}},
		{3, 1, api.Trade{
			Holders: []api.Holder{holder(2, at(0), at(0), 0), holder(3, span(110, 120), span(90, 130), 110)},
			Moves:   []api.Move{move(7, 3, 2, span(30, 50)), move(8, 2, 3, span(35, 60))},
		}},
		{1, 3, api.Trade{
			Holders: []api.Holder{holder(1, span(110, 120), span(90, 130), 110), holder(2, at(0), at(0), 0)},
			Moves:   []api.Move{move(7, 1, 2, span(30, 50)), move(8, 2, 1, span(35, 60))},
		}},
	} {
		x, e := flow.Merged(nine(), k.a, k.b)
		good(t, e)
		sameTrade(t, x, k.want, k.a, k.b)
	}
}

// P5.9: of rolled trades, too; and what is merged is valid.
func TestMerged(t *testing.T) {
	forTrades(many(), 200, func(d *dice, x api.Trade) {
		ids := shuffled(d, allIDs(x))
		if len(ids) < 2 {
			return
		}
		y, e := flow.Merged(x, ids[0], ids[1])
		want := mergedByWords(x, ids[0], ids[1])
		if flow.Check(want) != api.OK {
			equal(t, e, api.ErrRange, x)
			return
		}
		good(t, e, x)
		sameTrade(t, y, want, x)
	})
}

// P5.9: the errors, in their order.
func TestErrorsOfMerged(t *testing.T) {
	big := changed(func(t *api.Trade) { t.Holders[0].Booked, t.Holders[2].Booked = api.MaxMass, 1 })
	for _, k := range []struct {
		a, b int
		want api.Errno
	}{
		{1, 4, api.ErrNone}, {4, 1, api.ErrNone}, {4, 5, api.ErrNone}, {4, 4, api.ErrNone}, {0, 0, api.ErrNone}, {7, 7, api.ErrNone}, {7, 1, api.ErrNone}, {1, 7, api.ErrNone},
		{minInt, 1, api.ErrNone}, {1, maxInt, api.ErrNone},
		{1, 1, api.ErrArg}, {2, 2, api.ErrArg}, {3, 3, api.ErrArg},
		{1, 3, api.ErrRange}, {3, 1, api.ErrRange}, {1, 2, api.OK}, {2, 3, api.OK},
	} {
		x, e := flow.Merged(big, k.a, k.b)
		equal(t, e, k.want, k)
		equal(t, isZeroTrade(x), e != api.OK, k)
	}
}

// P5.9: each sum can be just the greatest mass, and no more.
func TestSumsOfMerged(t *testing.T) {
	for _, do := range []func(h *api.Holder, n int){
		func(h *api.Holder, n int) { h.Start = span(0, n) },
		func(h *api.Holder, n int) { h.Start = at(n) },
		func(h *api.Holder, n int) { h.End = span(0, n) },
		func(h *api.Holder, n int) { h.End = at(n) },
		func(h *api.Holder, n int) { h.Booked = n },
	} {
		for by, want := range []api.Errno{api.OK, api.ErrRange} {
			x := api.Trade{Holders: []api.Holder{{ID: 1}, {ID: 2}}}
			do(&x.Holders[0], 1000+by)
			do(&x.Holders[1], api.MaxMass-1000)
			for _, ids := range [][2]int{{1, 2}, {2, 1}} {
				y, e := flow.Merged(x, ids[0], ids[1])
				equal(t, e, want, x)
				if e == api.OK {
					sameTrade(t, y, mergedByWords(x, ids[0], ids[1]), x)
				} else {
					equal(t, isZeroTrade(y), true, y)
				}
			}
		}
	}
	x := ring()
	x.Holders[0].Booked, x.Holders[1].Booked = 0, 0
	_, e := flow.Merged(x, api.MaxID, api.MaxID-1)
	equal(t, e, api.ErrRange, "Start and End")
}
