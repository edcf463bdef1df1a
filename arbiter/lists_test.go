package arbiter_test

import (
	"slices"

	"kentledge/api"
)

// matter is what lists that are rolled are about.
type matter struct {
	court    api.Court
	ids      []int
	rounds   int
	findings int // 0 to this one
}

func (d *dice) matter() matter {
	ids := []int{4}
	if d.one(3) {
		ids = []int{1, 4, api.MaxID}
	}
	return matter{court: d.court(), ids: ids, rounds: d.between(2, 6), findings: d.between(1, 3)}
}

// letter rolls a formed letter of a kind.
func (d *dice) letter(m matter, kind int) api.Letter {
	id, round, from := d.of(m.ids...), d.between(1, m.rounds), d.between(0, m.court.Arbiters-1)
	finding := d.between(0, m.findings)
	x := vote(id, round, from, finding)
	switch kind {
	case api.LePrepare:
		x = prepare(m.court, id, round)
	case api.LePromise:
		x = promise(m.court, id, round, from, 0, 0)
		if voted := d.between(0, round-1); voted > 0 {
			x.Voted, x.Finding = voted, finding
		}
	case api.LePropose:
		x = propose(m.court, id, round, finding)
	}
	return again(m.court, x, d.between(0, 9), d.between(0, 6))
}

// likely rolls a letter that may well be lawful behind others.
func (d *dice) likely(m matter, l []api.Letter) api.Letter {
	x := d.letter(m, d.of(1, 2, 2, 2, 3, 3, 4, 4, 4, 4))
	switch proposed := inRound(among(l, x.Case, api.LePropose), x.Round); {
	case x.Kind == api.LePromise:
		last := lastVoteBy(l, x.From, x.Case)
		if last.Round < x.Round {
			x.Voted, x.Finding = last.Round, last.Finding
		}
	case x.Kind == api.LeVote && len(proposed) > 0:
		x.Finding = proposed[0].Finding
	}
	return x
}

// lawful rolls a lawful list of at most so many letters, some of which are said again.
func (d *dice) lawful(m matter, most int) []api.Letter {
	var l []api.Letter
	for range 5 * most {
		x := d.likely(m, l)
		if len(l) > 0 && d.one(10) {
			x = again(m.court, l[d.between(0, len(l)-1)], d.between(0, 9), d.between(0, 6))
		} else if slices.ContainsFunc(l, func(y api.Letter) bool { return saysTheSame(x, y) }) {
			continue
		}
		if lawfulByWords(m.court, l, x) {
			l = append(l, x)
		}
		if len(l) == most {
			break
		}
	}
	return l
}

// any rolls a list of formed letters, most of which are lawful or nearly so.
func (d *dice) any(m matter, most int) []api.Letter {
	l := d.lawful(m, most)
	for range d.between(0, 4) {
		x := d.likely(m, l)
		if d.one(2) {
			x = d.letter(m, d.between(1, 4))
		}
		l = slices.Insert(l, d.between(0, len(l)), x)
	}
	for range d.between(0, 2) {
		if len(l) > 0 {
			at := d.between(0, len(l)-1)
			l = slices.Delete(l, at, at+1)
		}
	}
	return l
}

// votes rolls a list that is mostly votes, for few rulings, without any order.
func (d *dice) votes(m matter, most int) []api.Letter {
	m.rounds = min(m.rounds, 3)
	var l []api.Letter
	for range d.between(0, most) {
		l = append(l, d.letter(m, d.of(1, 2, 3, 4, 4, 4, 4, 4, 4, 4)))
	}
	return l
}

// forLawful rolls lawful lists.
func forLawful(times, most int, what func(d *dice, m matter, l []api.Letter)) {
	d := &dice{state: uint64(most)}
	for range times {
		m := d.matter()
		what(d, m, d.lawful(m, most))
	}
}

// forAny rolls lists of all sorts.
func forAny(times, most int, what func(d *dice, m matter, l []api.Letter)) {
	d := &dice{state: uint64(most)}
	for i := range times {
		m := d.matter()
		if i%3 == 0 {
			what(d, m, d.votes(m, most))
		} else {
			what(d, m, d.any(m, most))
		}
	}
}
