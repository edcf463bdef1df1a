package flow

import (
	"cmp"
	"maps"
	"slices"

	"kentledge/api"
)

// placed is a movement that stands; of two the one that was put before has the lesser turn.
type placed struct {
	api.Move
	turn int
}

// Office is a trade that is kept while movements come and go.
type Office struct {
	holders []api.Holder
	moves   map[int]placed // by their IDs
	turns   int            // how often a movement was put
}

// New returns an office with holders, without movements.
func New(l []api.Holder) (*Office, api.Errno) {
	if e := Check(api.Trade{Holders: l}); e != api.OK {
		return nil, e
	}
	return &Office{holders: slices.Clone(l), moves: map[int]placed{}}, api.OK
}

// Put adds a movement.
func (o *Office) Put(m api.Move) api.Errno {
	if len(o.moves) >= api.MaxMoves {
		return api.ErrLimit
	}
	if e := checkMove(o.holders, m); e != api.OK {
		return e
	}
	if _, twice := o.moves[m.ID]; twice {
		return api.ErrTwice
	}
	o.turns++
	o.moves[m.ID] = placed{Move: m, turn: o.turns}
	return api.OK
}

// Take withdraws a movement.
func (o *Office) Take(id int) api.Errno {
	if _, is := o.moves[id]; !is {
		return api.ErrNone
	}
	delete(o.moves, id)
	return api.OK
}

// Trade returns the trade with the movements that stand.
func (o *Office) Trade() api.Trade {
	t := api.Trade{Holders: slices.Clone(o.holders)}
	for _, p := range slices.SortedFunc(maps.Values(o.moves), func(p, q placed) int { return cmp.Compare(p.turn, q.turn) }) {
		t.Moves = append(t.Moves, p.Move)
	}
	return t
}

// Agrees reports whether it has a course.
func (o *Office) Agrees() bool { return hasCourse(o.Trade()) }
