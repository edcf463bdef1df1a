package arbiter

import (
	"slices"

	"kentledge/api"
)

// everyone returns all arbiters by their numbers.
func (w *World) everyone() []int {
	var all []int
	for arbiter := range w.court.Arbiters {
		all = append(all, arbiter)
	}
	return all
}

// send sends a letter to some arbiters, one behind the other.
func (w *World) send(x api.Letter, to ...int) {
	for _, arbiter := range to {
		x.ID, x.To = len(w.sent)+1, arbiter // what is lost has an ID, too
		w.sent = append(w.sent, x)
		if len(w.onWay) < api.MaxPost {
			w.onWay = append(w.onWay, x)
		}
	}
}

// read lets an arbiter read a letter to it.
func (w *World) read(x api.Letter) {
	kinds := map[int]func(api.Letter){
		api.LePrepare: w.readPrepare,
		api.LePromise: w.readPromise,
		api.LePropose: w.readPropose,
		api.LeVote:    w.readVote,
	}
	kinds[x.Kind](x)
}

func (w *World) readPrepare(x api.Letter) {
	s := seat{x.To, x.Case}
	book := w.books[s]
	if x.Round < book.Promised || x.Round <= book.Voted {
		return
	}
	book.Promised = x.Round
	w.books[s] = book
	w.send(api.Letter{
		Case: x.Case, Kind: api.LePromise, Round: x.Round, From: x.To,
		Voted: book.Voted, Finding: book.Finding,
	}, Chair(w.court, x.Round))
}

func (w *World) readPromise(x api.Letter) {
	s := seat{x.To, x.Case}
	b, is := w.begun[s]
	if !is || b.round != x.Round || slices.ContainsFunc(b.promises, isBy(x.From)) {
		return
	}
	b.promises = append(b.promises, x)
	w.begun[s] = b
	w.propose(s)
}

// propose lets a chair propose, if it has begun a round in which it has not proposed yet, and can.
func (w *World) propose(s seat) {
	b, is := w.begun[s]
	if !is || b.proposed {
		return
	}
	finding, isBound, e := Pick(w.court, b.promises)
	if e != api.OK { // not yet a majority
		return
	}
	if !isBound {
		wish, is := w.wishes[s]
		if !is {
			return
		}
		finding = wish
	}
	b.proposed = true
	w.begun[s] = b
	w.send(api.Letter{Case: s.id, Kind: api.LePropose, Round: b.round, From: s.arbiter, Finding: finding}, w.everyone()...)
}

func (w *World) readPropose(x api.Letter) {
	s := seat{x.To, x.Case}
	book := w.books[s]
	if x.Round < book.Promised {
		return
	}
	book.Promised, book.Voted, book.Finding = x.Round, x.Round, x.Finding
	w.books[s] = book
	w.send(api.Letter{Case: x.Case, Kind: api.LeVote, Round: x.Round, From: x.To, Finding: x.Finding}, w.everyone()...)
}

func (w *World) readVote(x api.Letter) { w.votes[x.To].count(x) }
