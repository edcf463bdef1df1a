package flow_test

import (
	"slices"
	"testing"

	"kentledge/api"
	"kentledge/flow"
)

// ring is a trade with as many holders and movements as can be, all of them with what is greatest.
func ring() api.Trade {
	var t api.Trade
	for i := range api.MaxHolders {
		t.Holders = append(t.Holders, holder(api.MaxID-i, span(0, api.MaxMass), span(0, api.MaxMass), api.MaxMass))
	}
	for i := range api.MaxMoves {
		t.Moves = append(t.Moves, move(api.MaxID-i, api.MaxID-i%9, api.MaxID-(i+1)%9, span(0, api.MaxMass)))
	}
	return t
}

// wrongTrade is the trade of the examples with something that is wrong.
type wrongTrade struct {
	name string
	do   func(t *api.Trade)
	want api.Errno
}

func wrongTrades() []wrongTrade {
	h := func(do func(h *api.Holder)) func(t *api.Trade) {
		return func(t *api.Trade) { do(&t.Holders[1]) }
	}
	m := func(do func(m *api.Move)) func(t *api.Trade) {
		return func(t *api.Trade) { do(&t.Moves[1]) }
	}
	list := []wrongTrade{
		{"ten holders", func(t *api.Trade) { t.Holders = make([]api.Holder, 10) }, api.ErrLimit},
		{"25 movements", func(t *api.Trade) { t.Moves = make([]api.Move, 25) }, api.ErrLimit},
		{"25 movements, and a wrong holder", func(t *api.Trade) { t.Moves, t.Holders[0].ID = make([]api.Move, 25), 0 }, api.ErrLimit},
		{"a holder twice", h(func(h *api.Holder) { h.ID = 1 }), api.ErrTwice},
		{"a holder twice, wrong", h(func(h *api.Holder) { h.ID, h.Booked = 1, -1 }), api.ErrArg},
		{"from nobody", m(func(m *api.Move) { m.From = 4 }), api.ErrNone},
		{"to nobody", m(func(m *api.Move) { m.To = 4 }), api.ErrNone},
		{"from nobody to nobody", m(func(m *api.Move) { m.From, m.To = 4, 4 }), api.ErrArg},
		{"from outside", m(func(m *api.Move) { m.From = 0 }), api.ErrNone},
		{"to outside", m(func(m *api.Move) { m.To = 0 }), api.ErrNone},
		{"to where it comes from", m(func(m *api.Move) { m.To = 2 }), api.ErrArg},
		{"a movement twice", m(func(m *api.Move) { m.ID = 7 }), api.ErrTwice},
		{"a movement twice, from nobody", m(func(m *api.Move) { m.ID, m.From = 7, 4 }), api.ErrNone},
		{"a movement twice, wrong", m(func(m *api.Move) { m.ID, m.Mass.Lo = 7, -1 }), api.ErrArg},
		{"a movement by the ID of a movement", m(func(m *api.Move) { m.From = 7 }), api.ErrNone},
	}
	for _, id := range []int{0, -1, api.MaxID + 1, minInt, maxInt} {
		list = append(list,
			wrongTrade{"the ID of a holder", h(func(h *api.Holder) { h.ID = id }), api.ErrArg},
			wrongTrade{"the ID of a movement", m(func(m *api.Move) { m.ID = id }), api.ErrArg})
	}
	for _, n := range []int{-1, api.MaxMass + 1, minInt, maxInt} {
		list = append(list, wrongTrade{"Booked", h(func(h *api.Holder) { h.Booked = n }), api.ErrArg})
	}
	for _, s := range []api.Span{span(-1, 5), span(5, 4), span(0, api.MaxMass+1), span(minInt, maxInt), span(maxInt, minInt), span(1, 0), span(api.MaxMass+1, api.MaxMass+1), span(-1, -1), span(-2, -1), span(minInt, 0), span(0, maxInt)} {
		list = append(list,
			wrongTrade{"Start", h(func(h *api.Holder) { h.Start = s }), api.ErrArg},
			wrongTrade{"End", h(func(h *api.Holder) { h.End = s }), api.ErrArg},
			wrongTrade{"Mass", m(func(m *api.Move) { m.Mass = s }), api.ErrArg})
	}
	return list
}

// P5.1: valid trades, as large as can be among them.
func TestCheckOfValidTrades(t *testing.T) {
	for i, x := range []api.Trade{
		{}, example(), tooMuch(), nine(), ring(),
		{Holders: []api.Holder{{ID: 1}}},
		{Holders: []api.Holder{holder(api.MaxID, at(api.MaxMass), at(api.MaxMass), api.MaxMass)}},
		{Holders: []api.Holder{{ID: 7}, {ID: 8}}, Moves: []api.Move{{ID: 8, From: 8, To: 7}, {ID: 7, From: 8, To: 7}, {ID: 1, From: 7, To: 8}}},
	} {
		equal(t, flow.Check(x), api.OK, i)
	}
}

// P5.1: each error.
func TestCheckOfWrongTrades(t *testing.T) {
	for _, x := range wrongTrades() {
		equal(t, flow.Check(changed(x.do)), x.want, x.name)
	}
	long := ring()
	long.Holders = append(long.Holders, api.Holder{ID: 1})
	equal(t, flow.Check(long), api.ErrLimit)
	long = ring()
	long.Moves = append(long.Moves, move(1, api.MaxID, api.MaxID-1, at(0)))
	equal(t, flow.Check(long), api.ErrLimit)
	equal(t, flow.Check(api.Trade{Moves: []api.Move{move(1, 1, 2, at(0))}}), api.ErrNone, "without holders")
	equal(t, flow.Check(api.Trade{Moves: make([]api.Move, 1)}), api.ErrArg, "without holders")
}

// P5.1, R3: all errors of a holder come before those of the next one, and all of holders before those of movements.
func TestOrderOfErrorsOfCheck(t *testing.T) {
	twice, wrong := holder(1, at(0), at(0), 0), api.Holder{}
	lost, bad, again := move(3, 1, 9, at(0)), api.Move{}, move(7, 1, 2, at(0))
	holders := example().Holders
	moves := example().Moves
	for i, x := range []struct {
		holders []api.Holder
		moves   []api.Move
		want    api.Errno
	}{
		{[]api.Holder{twice, twice, wrong}, nil, api.ErrTwice},
		{[]api.Holder{twice, wrong, twice}, nil, api.ErrArg},
		{[]api.Holder{wrong, wrong}, nil, api.ErrArg},
		{[]api.Holder{twice, holder(2, at(0), at(0), 0), twice}, []api.Move{bad}, api.ErrTwice},
		{[]api.Holder{twice, wrong}, []api.Move{lost}, api.ErrArg},
		{[]api.Holder{twice, twice}, make([]api.Move, 25), api.ErrLimit},
		{holders, append(slices.Clone(moves), lost, bad), api.ErrNone},
		{holders, append(slices.Clone(moves), bad, lost), api.ErrArg},
		{holders, append(slices.Clone(moves), again, bad), api.ErrTwice},
		{holders, append(slices.Clone(moves), again, lost), api.ErrTwice},
		{holders, append(slices.Clone(moves), lost, again), api.ErrNone},
		{holders, []api.Move{moves[0], moves[1], move(8, 3, 1, at(0))}, api.ErrTwice},
		{holders, []api.Move{moves[0], moves[1], move(7, 3, 1, at(0))}, api.ErrTwice},
	} {
		equal(t, flow.Check(api.Trade{Holders: x.holders, Moves: x.moves}), x.want, i)
	}
}
