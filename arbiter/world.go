package arbiter

import (
	"maps"
	"slices"

	"kentledge/api"
)

// seat is an arbiter in a case.
type seat struct{ arbiter, id int }

// begun is a round that a chair has begun, with the promises that it has got.
type begun struct {
	round    int
	promises []api.Letter
	proposed bool
}

// World is arbiters with their books, and letters on their way.
type World struct {
	court  api.Court
	onWay  []api.Letter
	sent   []api.Letter
	cases  map[int]bool
	books  map[seat]api.Note
	wishes map[seat]int
	begun  map[seat]begun
	votes  []tally // those that each arbiter has got
}

// New returns a world at its beginning.
func New(c api.Court) (*World, api.Errno) {
	if e := Check(c); e != api.OK {
		return nil, e
	}
	w := &World{court: c, cases: map[int]bool{}, books: map[seat]api.Note{}, wishes: map[seat]int{}, begun: map[seat]begun{}}
	for range c.Arbiters {
		w.votes = append(w.votes, tally{})
	}
	return w, api.OK
}

// own returns an act with those of its fields alone that its kind has.
func own(a api.Act) api.Act {
	switch a.Kind {
	case api.AcWish:
		return api.Act{Kind: a.Kind, A: a.A, Case: a.Case, Finding: a.Finding}
	case api.AcOpen:
		return api.Act{Kind: a.Kind, A: a.A, Case: a.Case}
	case api.AcForget:
		return api.Act{Kind: a.Kind, A: a.A}
	}
	return api.Act{Kind: a.Kind, N: a.N}
}

// Do does an act.
func (w *World) Do(a api.Act) api.Errno {
	acts := map[int]func(api.Act) api.Errno{
		api.AcWish:    w.doWish,
		api.AcOpen:    w.doOpen,
		api.AcDeliver: w.doDeliver,
		api.AcLose:    w.doLose,
		api.AcDouble:  w.doDouble,
		api.AcForget:  w.doForget,
	}
	act, is := acts[a.Kind]
	if !is || a != own(a) {
		return api.ErrArg
	}
	return act(a)
}

// hasRoom reports whether a case was named already, or one more can be.
func (w *World) hasRoom(id int) bool { return w.cases[id] || len(w.cases) < api.MaxCases }

func (w *World) doWish(a api.Act) api.Errno {
	if !isArbiter(w.court, a.A) || !isCase(a.Case) || !isFinding(a.Finding) {
		return api.ErrArg
	}
	if !w.hasRoom(a.Case) {
		return api.ErrLimit
	}
	s := seat{a.A, a.Case}
	if _, twice := w.wishes[s]; twice {
		return api.ErrTwice
	}
	w.cases[a.Case] = true
	w.wishes[s] = a.Finding
	w.propose(s)
	return api.OK
}

func (w *World) doOpen(a api.Act) api.Errno {
	if !isArbiter(w.court, a.A) || !isCase(a.Case) {
		return api.ErrArg
	}
	if !w.hasRoom(a.Case) {
		return api.ErrLimit
	}
	s := seat{a.A, a.Case}
	book := w.books[s]
	round, e := Next(w.court, a.A, max(book.Promised, book.Opened))
	if e != api.OK {
		return e
	}
	w.cases[a.Case] = true
	book.Opened = round
	w.books[s] = book
	w.begun[s] = begun{round: round}
	w.send(api.Letter{Case: a.Case, Kind: api.LePrepare, Round: round, From: a.A}, w.everyone()...)
	return api.OK
}

// find returns where a letter is among those on their way, or -1.
func (w *World) find(id int) int {
	return slices.IndexFunc(w.onWay, func(x api.Letter) bool { return x.ID == id })
}

// take takes a letter from its way.
func (w *World) take(id int) (api.Letter, api.Errno) {
	at := w.find(id)
	if at < 0 {
		return api.Letter{}, api.ErrNone
	}
	x := w.onWay[at]
	w.onWay = slices.Delete(w.onWay, at, at+1)
	return x, api.OK
}

func (w *World) doDeliver(a api.Act) api.Errno {
	x, e := w.take(a.N)
	if e != api.OK {
		return e
	}
	w.read(x)
	return api.OK
}

func (w *World) doLose(a api.Act) api.Errno {
	_, e := w.take(a.N)
	return e
}

func (w *World) doDouble(a api.Act) api.Errno {
	at := w.find(a.N)
	if at < 0 {
		return api.ErrNone
	}
	if len(w.onWay) >= api.MaxPost {
		return api.ErrLimit
	}
	w.send(w.onWay[at], w.onWay[at].To)
	return api.OK
}

func (w *World) doForget(a api.Act) api.Errno {
	if !isArbiter(w.court, a.A) {
		return api.ErrArg
	}
	maps.DeleteFunc(w.begun, func(s seat, _ begun) bool { return s.arbiter == a.A })
	return api.OK
}

// Letters returns the letters on their way.
func (w *World) Letters() []api.Letter { return slices.Clone(w.onWay) }

// Sent returns all letters that were ever sent.
func (w *World) Sent() []api.Letter { return slices.Clone(w.sent) }

// Book returns what an arbiter has written down of a case.
func (w *World) Book(arbiter, id int) api.Note { return w.books[seat{arbiter, id}] }

// Wish returns what an arbiter would propose in a case.
func (w *World) Wish(arbiter, id int) (int, bool) {
	finding, is := w.wishes[seat{arbiter, id}]
	return finding, is
}

// Known returns the rulings that an arbiter knows.
func (w *World) Known(arbiter int) []api.Ruling {
	if !isArbiter(w.court, arbiter) {
		return nil
	}
	return w.votes[arbiter].rulings(w.court)
}

// Cases returns all cases that were ever named.
func (w *World) Cases() []int { return slices.Sorted(maps.Keys(w.cases)) }
