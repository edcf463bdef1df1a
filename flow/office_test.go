package flow_test

import (
	"slices"
	"testing"

	"kentledge/api"
	"kentledge/flow"
)

func newOffice(t *testing.T, l []api.Holder) *flow.Office {
	t.Helper()
	o, e := flow.New(l)
	good(t, e, l)
	return o
}

// P5.10: New has the errors of Check for a trade with just the holders.
func TestNew(t *testing.T) {
	for _, x := range wrongTrades() {
		y := changed(x.do)
		want := flow.Check(api.Trade{Holders: y.Holders})
		o, e := flow.New(y.Holders)
		equal(t, e, want, x.name)
		equal(t, o == nil, want != api.OK, x.name)
	}
	for _, l := range [][]api.Holder{nil, {}, {{ID: 1}}, ring().Holders} {
		o := newOffice(t, l)
		sameTrade(t, o.Trade(), api.Trade{Holders: l})
		equal(t, o.Agrees(), true, l)
	}
	_, e := flow.New(append(ring().Holders, api.Holder{ID: 1}))
	equal(t, e, api.ErrLimit)
	equal(t, newOffice(t, example().Holders).Agrees(), false)
}

// P5.10: movements are put and taken; what stands has the order in which it was put.
func TestPutAndTake(t *testing.T) {
	o := newOffice(t, example().Holders)
	stands := func(agrees bool, ids ...int) {
		t.Helper()
		sameList(t, o.Trade().Holders, example().Holders)
		var got []int
		for _, m := range o.Trade().Moves {
			got = append(got, m.ID)
			equal(t, m, nine().Moves[m.ID-7])
		}
		sameList(t, got, ids)
		equal(t, o.Agrees(), agrees, ids)
	}
	stands(false)
	equal(t, o.Take(7), api.ErrNone)
	good(t, o.Put(nine().Moves[1]))
	stands(false, 8)
	good(t, o.Put(nine().Moves[0]))
	stands(true, 8, 7)
	good(t, o.Put(nine().Moves[2]))
	stands(false, 8, 7, 9)
	good(t, o.Take(8))
	stands(false, 7, 9)
	equal(t, o.Take(8), api.ErrNone)
	good(t, o.Put(nine().Moves[1]))
	stands(false, 7, 9, 8)
	equal(t, o.Put(nine().Moves[1]), api.ErrTwice)
	good(t, o.Take(9))
	stands(true, 7, 8)
	for _, id := range []int{9, 1, 0, -1, minInt, maxInt} {
		equal(t, o.Take(id), api.ErrNone, id)
	}
	stands(true, 7, 8)
}

// P5.10, R5: the errors of Put, and that they change nothing.
func TestErrorsOfPut(t *testing.T) {
	o := newOffice(t, example().Holders)
	for _, m := range example().Moves {
		good(t, o.Put(m))
	}
	for _, x := range wrongTrades() {
		y := changed(x.do)
		if len(y.Holders) != 3 || !slices.Equal(y.Holders, example().Holders) || len(y.Moves) != 2 {
			continue
		}
		m := y.Moves[1]
		if m.ID == 8 {
			m.ID = 10
		}
		equal(t, o.Put(m), x.want, x.name)
		sameTrade(t, o.Trade(), example(), x.name)
		equal(t, o.Agrees(), true, x.name)
	}
	equal(t, o.Put(move(8, 1, 2, at(0))), api.ErrTwice)
	equal(t, o.Put(move(8, 1, 9, at(0))), api.ErrNone)
	equal(t, o.Put(move(8, 1, 1, at(0))), api.ErrArg)
	equal(t, o.Put(move(10, 9, 9, at(0))), api.ErrArg)
	sameTrade(t, o.Trade(), example())
}

// P5.10: there can be as many movements as the limit says, and the limit comes before all other errors.
func TestLimitOfPut(t *testing.T) {
	o := newOffice(t, example().Holders)
	for i := range api.MaxMoves {
		good(t, o.Put(move(100-i, 1, 2, span(0, 9))))
	}
	wrong := []struct {
		m    api.Move
		want api.Errno
	}{
		{api.Move{}, api.ErrArg}, {move(100, 1, 1, at(0)), api.ErrArg}, {move(1, 1, 9, at(0)), api.ErrNone}, {move(100, 1, 2, at(0)), api.ErrTwice}, {move(1, 1, 2, at(0)), api.OK},
	}
	before := o.Trade()
	for _, x := range wrong {
		equal(t, o.Put(x.m), api.ErrLimit, x)
		sameTrade(t, o.Trade(), before, x)
	}
	good(t, o.Take(90))
	for _, x := range wrong {
		equal(t, o.Put(x.m), x.want, x)
	}
	equal(t, o.Put(move(2, 1, 2, at(0))), api.ErrLimit)
	equal(t, len(o.Trade().Moves), api.MaxMoves)
	equal(t, o.Trade().Moves[api.MaxMoves-1].ID, 1)
}

// P5.10, P5.18: an office does what a list of movements does, whatever is put and taken.
func TestOfficeAsList(t *testing.T) {
	met := map[api.Errno]int{}
	agreed := map[bool]int{}
	forTrades(few(), 150, func(d *dice, x api.Trade) {
		o := newOffice(t, x.Holders)
		want := api.Trade{Holders: x.Holders}
		for range 30 {
			id := d.between(1, 9)
			if d.one(3) {
				i := slices.IndexFunc(want.Moves, func(m api.Move) bool { return m.ID == id })
				e := o.Take(id)
				met[e]++
				equal(t, e == api.ErrNone, i < 0, id)
				if i >= 0 {
					good(t, e)
					want.Moves = slices.Delete(slices.Clone(want.Moves), i, i+1)
				}
			} else {
				ids := append(allIDs(x), 99)
				m := move(id, ids[d.between(0, len(ids)-2)], ids[d.between(0, len(ids)-1)], d.around(d.between(0, 3), 1))
				longer := api.Trade{Holders: want.Holders, Moves: append(slices.Clone(want.Moves), m)}
				e := o.Put(m)
				met[e]++
				equal(t, e, flow.Check(longer), longer)
				if e == api.OK {
					want = longer
				}
			}
			sameTrade(t, o.Trade(), want)
			equal(t, o.Agrees(), isFound(want), want)
			agreed[o.Agrees()]++
		}
	})
	enough(t, met, 100, api.OK, api.ErrArg, api.ErrNone, api.ErrTwice)
	enough(t, agreed, 300, true, false)
}

// P5.10, R7: offices do not know of each other.
func TestOfficesAreApart(t *testing.T) {
	a, b := newOffice(t, example().Holders), newOffice(t, tooMuch().Holders)
	for _, m := range example().Moves {
		good(t, a.Put(m))
		good(t, b.Put(m))
	}
	equal(t, a.Agrees(), true)
	equal(t, b.Agrees(), false)
	good(t, b.Take(7))
	sameTrade(t, a.Trade(), example())
	equal(t, len(b.Trade().Moves), 1)
}
