package arbiter_test

import (
	"slices"
	"testing"

	"kentledge/api"
	"kentledge/arbiter"
)

// P9.10: in a lawful list all rulings of one case have the same finding.
func TestOneRuling(t *testing.T) {
	several, findings := 0, map[int]int{}
	forLawful(800, 80, func(_ *dice, m matter, l []api.Letter) {
		lawfulIs(t, m.court, l, -1)
		of := map[int]int{}
		for _, r := range rulingsOf(t, m.court, l) {
			if finding, is := of[r.Case]; is {
				equal(t, r.Finding, finding, l)
				several++
			}
			of[r.Case] = r.Finding
			findings[r.Finding]++
		}
	})
	equal(t, several > 60, true, several)
	enough(t, findings, 50, 0, 1, 2)
}

// P9.3, P9.10, P9.11: all lawful lists of two rounds of a court of three, and what each letter does behind them.
func TestAllOfTwoRounds(t *testing.T) {
	all := letters(matter{court: three, ids: []int{4}, rounds: 2, findings: 1})
	seen := map[int]bool{0: true} // sets of letters
	lists := [][]api.Letter{nil}
	rulings := 0
	for len(lists) > 0 {
		l := lists[len(lists)-1]
		lists = lists[:len(lists)-1]
		set := 0
		for _, x := range l {
			set |= 1 << slices.Index(all, x)
		}
		findings := map[int]bool{}
		for _, r := range rulingsOf(t, three, l) {
			findings[r.Finding] = true
		}
		rulings += len(findings)
		equal(t, len(findings) < 2, true, l)
		for i, x := range all {
			at, is, _ := arbiter.Lawful(three, append(l, x))
			equal(t, is, lawfulByWords(three, l, x), l, x)
			if !is {
				equal(t, at, len(l), l, x)
				continue
			}
			if more := set | 1<<i; !seen[more] {
				seen[more] = true
				lists = append(lists, append(slices.Clone(l), x))
				boundIs(t, three, append(l, x))
			}
		}
	}
	equal(t, len(seen) > 3000, true, len(seen))
	equal(t, rulings > 500, true, rulings)
}

// boundIs fails if in a lawful list something was proposed while something else could be ruled in a lesser round; it returns how often that was looked at.
func boundIs(t *testing.T, c api.Court, l []api.Letter) int {
	t.Helper()
	looked := 0
	for i, x := range l {
		if x.Kind != api.LePropose {
			continue
		}
		for round := 1; round < x.Round; round++ {
			for _, then := range [][]api.Letter{l[:i], l} {
				finding, one, any, e := arbiter.Can(c, then, x.Case, round)
				good(t, e)
				equal(t, any, false, l, x, round)
				if one {
					equal(t, finding, x.Finding, l, x, round)
					looked++
				}
			}
		}
	}
	return looked
}

// P9.11: for each LePropose and each lesser round, Can names its finding or none, and not any one.
func TestBound(t *testing.T) {
	looked := 0
	forLawful(800, 80, func(_ *dice, m matter, l []api.Letter) { looked += boundIs(t, m.court, l) })
	equal(t, looked > 400, true, looked)
}

// P9.11: what differs from what can still be ruled in a lesser round can not be proposed lawfully.
func TestNotProposed(t *testing.T) {
	met := map[string]int{}
	forLawful(700, 60, func(_ *dice, m matter, l []api.Letter) {
		for round := 2; round <= m.rounds; round++ {
			for finding := 0; finding <= m.findings; finding++ {
				x := propose(m.court, m.ids[0], round, finding)
				if slices.ContainsFunc(l, func(y api.Letter) bool { return saysTheSame(x, y) }) {
					continue
				}
				_, lawful, _ := arbiter.Lawful(m.court, append(l, x))
				for lesser := 1; lesser < round; lesser++ {
					other, one, any, e := arbiter.Can(m.court, l, x.Case, lesser)
					good(t, e)
					if any || one && other != finding {
						equal(t, lawful, false, l, x, lesser)
						met["not"]++
					}
				}
				if lawful {
					met["lawful"]++
				}
			}
		}
	})
	enough(t, met, 100, "not", "lawful")
}

// live does acts that are rolled in a world.
func live(d *dice, how weather, w *arbiter.World, acts int) {
	for range acts {
		w.Do(d.act(how, w.Letters()))
	}
}

// cut is the letters that were sent first, as many as a list may have.
func cut(l []api.Letter) []api.Letter { return l[:min(len(l), api.MaxHistory)] }

// P9.12: what was sent is lawful, what is known is ruled, and books say what the letters say.
func TestWorldsAreLawful(t *testing.T) {
	d := &dice{}
	known, voted := 0, 0
	for range 300 {
		how := d.weather()
		w := newWorld(t, how.court)
		for range 8 {
			live(d, how, w, 40)
			sent := w.Sent()
			lawfulIs(t, how.court, cut(sent), -1)
			if len(sent) > api.MaxHistory {
				break
			}
			rulings := rulingsOf(t, how.court, sent)
			for who := range how.court.Arbiters {
				for _, r := range w.Known(who) {
					equal(t, slices.Contains(rulings, r), true, r, sent)
					known++
				}
				for _, id := range w.Cases() {
					book := w.Book(who, id)
					votedIs(t, how.court, sent, who, id, book.Voted, book.Finding)
					sameBook(t, sent, who, id, book)
					if book.Voted > 0 {
						voted++
					}
				}
			}
		}
	}
	equal(t, known > 1000, true, known)
	equal(t, voted > 1000, true, voted)
}

// sameBook fails unless a book says what the letters of an arbiter say.
func sameBook(t *testing.T, sent []api.Letter, who, id int, book api.Note) {
	t.Helper()
	promised, opened := 0, 0
	for _, x := range wordsBy(sent, who, id) {
		promised = max(promised, x.Round)
	}
	for _, x := range by(among(sent, id, api.LePrepare), who) {
		opened = max(opened, x.Round)
	}
	equal(t, book.Promised, promised, sent, who, id)
	equal(t, book.Opened, opened, sent, who, id)
}

// loseAll loses all letters on their way.
func loseAll(t *testing.T, w *arbiter.World) {
	t.Helper()
	for _, n := range onWay(w) {
		do(t, w, lose(n))
	}
}

// P9.13: whatever has happened, a last round of an arbiter with a wish, in which nothing is lost, lets all know a ruling.
func TestInTheEnd(t *testing.T) {
	d := &dice{}
	bound := 0
	for range 400 {
		how := d.weather()
		w := newWorld(t, how.court)
		live(d, how, w, d.between(0, 200))
		who, id := d.between(0, how.court.Arbiters-1), d.of(how.ids...)
		w.Do(wish(who, id, d.between(0, 3)))
		mine, _ := w.Wish(who, id)
		last := 0
		for other := range how.court.Arbiters {
			last = max(last, w.Book(other, id).Opened)
		}
		for w.Book(who, id).Opened <= last {
			loseAll(t, w)
			do(t, w, begin(who, id))
		}
		for len(w.Letters()) > 0 {
			do(t, w, deliver(w.Letters()[0].ID))
		}
		round, finding := w.Book(who, id).Opened, w.Book(who, id).Finding
		for other := range how.court.Arbiters {
			equal(t, slices.Contains(w.Known(other), ruling(id, round, finding)), true, how, w.Known(other))
			equal(t, w.Book(other, id).Voted, round)
		}
		if finding != mine {
			bound++
		}
	}
	equal(t, bound > 40, true, bound)
}

// P9.14: what Proof returns is accepted by CheckRuling, with the first one of Rulings; lists are of all sorts.
func TestProofIsAccepted(t *testing.T) {
	met := 0
	forAny(1000, 60, func(d *dice, m matter, l []api.Letter) {
		for i, r := range rulingsOf(t, m.court, l) {
			if i > 0 && rulingsOf(t, m.court, l)[i-1].Case == r.Case {
				continue
			}
			votes := proofOf(t, m.court, l, r.Case)
			showIs(t, m.court, votes, r, api.OK)
			equal(t, isMost(m.court, len(votes)-1), false, votes)
			for n := range votes { // none of them can be left out
				showIs(t, m.court, slices.Delete(slices.Clone(votes), n, n+1), api.Ruling{}, api.ErrProof)
			}
			met++
		}
	})
	equal(t, met > 300, true, met)
}

// P9.14: votes of a lawful list that CheckRuling accepts show one of its rulings.
func TestAcceptedVotesShowRulings(t *testing.T) {
	met := map[bool]int{}
	forLawful(500, 60, func(d *dice, m matter, l []api.Letter) {
		for range 60 {
			x := l[d.between(0, len(l)-1)]
			var votes []api.Letter
			for _, y := range l {
				isMeant := y.Kind == api.LeVote && y.Case == x.Case && (y.Round == x.Round || d.one(40))
				if isMeant && !d.one(6) && (len(by(votes, y.From)) == 0 || d.one(10)) {
					votes = append(votes, y)
				}
			}
			r, e := arbiter.CheckRuling(m.court, votes)
			if e == api.OK {
				equal(t, slices.Contains(rulingsOf(t, m.court, l), r), true, l, votes)
			}
			met[e == api.OK]++
		}
	})
	enough(t, met, 300, true, false)
}

// P9.15: a lawful list without some letters at its end is lawful.
func TestBeginningsAreLawful(t *testing.T) {
	forLawful(100, 60, func(_ *dice, m matter, l []api.Letter) {
		for n := range l {
			lawfulIs(t, m.court, l[:n], -1)
		}
	})
	forAny(100, 60, func(_ *dice, m matter, l []api.Letter) {
		at, _, _ := arbiter.Lawful(m.court, l)
		for n := range l {
			want := -1
			if at >= 0 && n > at {
				want = at
			}
			lawfulIs(t, m.court, l[:n], want)
		}
	})
}

// P9.15: a letter that is said again does not change what is lawful, ruled, or can be ruled.
func TestSaidAgain(t *testing.T) {
	unlawful := 0
	forAny(500, 50, func(d *dice, m matter, l []api.Letter) {
		for range 5 {
			if len(l) == 0 {
				return
			}
			i := d.between(0, len(l)-1)
			at := d.between(i+1, len(l))
			more := slices.Insert(slices.Clone(l), at, again(m.court, l[i], d.between(0, 9), d.between(0, 6)))
			want, _, _ := arbiter.Lawful(m.court, l)
			if want >= 0 {
				unlawful++
			}
			if want == i && i >= 0 || want < at {
				lawfulIs(t, m.court, more, want)
			} else {
				lawfulIs(t, m.court, more, want+1)
			}
			sameList(t, rulingsOf(t, m.court, more), rulingsOf(t, m.court, l), l, i, at)
			for round := 1; round <= m.rounds+1; round++ {
				for _, id := range m.ids {
					finding, one, any, e := arbiter.Can(m.court, l, id, round)
					good(t, e)
					canIs(t, m.court, more, id, round, finding, one, any)
				}
			}
		}
	})
	equal(t, unlawful > 300, true, unlawful)
}
