package arbiter_test

import (
	"slices"
	"testing"

	"kentledge/api"
	"kentledge/arbiter"
)

// ask is what functions with letters are asked for; not all of it matters to each of them.
type ask struct{ who, id, round int }

// asked is one of these functions; empty tells whether the results beside the error are zero.
type asked struct {
	name string
	of   func(c api.Court, l []api.Letter, a ask) (e api.Errno, empty bool)
}

// allAsked lists the functions with a list of letters.
func allAsked() []asked {
	return []asked{
		{"Pick", func(c api.Court, l []api.Letter, _ ask) (api.Errno, bool) {
			finding, is, e := arbiter.Pick(c, l)
			return e, finding == 0 && !is
		}},
		{"Lawful", func(c api.Court, l []api.Letter, _ ask) (api.Errno, bool) {
			at, is, e := arbiter.Lawful(c, l)
			return e, at == 0 && !is
		}},
		{"Rulings", func(c api.Court, l []api.Letter, _ ask) (api.Errno, bool) {
			rulings, e := arbiter.Rulings(c, l)
			return e, len(rulings) == 0
		}},
		{"CheckRuling", func(c api.Court, l []api.Letter, _ ask) (api.Errno, bool) {
			r, e := arbiter.CheckRuling(c, l)
			return e, r == api.Ruling{}
		}},
		{"Proof", func(c api.Court, l []api.Letter, a ask) (api.Errno, bool) {
			votes, e := arbiter.Proof(c, l, a.id)
			return e, len(votes) == 0
		}},
		{"Can", func(c api.Court, l []api.Letter, a ask) (api.Errno, bool) {
			finding, one, any, e := arbiter.Can(c, l, a.id, a.round)
			return e, finding == 0 && !one && !any
		}},
		{"Voted", func(c api.Court, l []api.Letter, a ask) (api.Errno, bool) {
			round, finding, e := arbiter.Voted(c, l, a.who, a.id)
			return e, round == 0 && finding == 0
		}},
	}
}

// ends fails unless each function returns an error, and with it nothing.
func ends(t *testing.T, c api.Court, l []api.Letter, a ask, want api.Errno) {
	t.Helper()
	for _, f := range allAsked() {
		e, empty := f.of(c, l, a)
		equal(t, e, want, f.name, c, len(l), a)
		equal(t, empty, true, f.name, c, len(l), a)
	}
}

// long is a lawful list of so many letters.
func long(n int) []api.Letter {
	l := example()
	for len(l) < n {
		l = append(l, again(three, l[len(l)-6], len(l), len(l)))
	}
	return l[:n]
}

// R3, R4: first the error of the court, then that of the length, then that of the letters, whatever else is wrong.
func TestOrderOfErrors(t *testing.T) {
	for _, a := range []ask{{0, 4, 1}, {-1, 0, 0}, {7, 1<<40 + 1, 1<<20 + 1}} {
		for _, c := range wrongCourts() {
			for _, l := range [][]api.Letter{nil, example(), {{}}, long(2001), append(long(2001), api.Letter{})} {
				ends(t, c, l, a, api.ErrArg)
			}
		}
		ends(t, three, long(2001), a, api.ErrLimit)
		ends(t, three, append([]api.Letter{{}}, long(2000)...), a, api.ErrLimit)
		ends(t, three, append(long(2000), api.Letter{}), a, api.ErrLimit)
		ends(t, three, append(long(1999), api.Letter{}), a, api.ErrForm)
		ends(t, three, append([]api.Letter{{}}, example()...), a, api.ErrForm)
		ends(t, three, append([]api.Letter{vote(4, 1, 0, 7)}, api.Letter{}), a, api.ErrForm)
		ends(t, three, append([]api.Letter{vote(4, 1, 0, 7)}, vote(4, 1, 3, 7)), a, api.ErrForm) // no arbiter of this court
	}
	for field := range letterFields {
		for _, n := range []int{-1, 1<<40 + 1} {
			ends(t, three, append(example(), spoiled(vote(4, 1, 2, 7), field, n)), ask{0, 4, 1}, api.ErrForm)
		}
	}
}

// P9.3 to P9.6: lists may have 2000 letters.
func TestLongLists(t *testing.T) {
	l := long(2000)
	lawfulIs(t, three, l, -1)
	sameList(t, rulingsOf(t, three, l), []api.Ruling{ruling(4, 1, 7)})
	sameList(t, proofOf(t, three, l, 4), example()[4:])
	canIs(t, three, l, 4, 1, 7, true, false)
	votedIs(t, three, l, 1, 4, 1, 7)
	pickIs(t, three, l, 0, false, api.ErrArg)
	showIs(t, three, l, api.Ruling{}, api.ErrProof)
	c := court(7)
	var rounds []api.Letter
	for round := 1; len(rounds) < 1995; round++ {
		rounds = append(rounds, prepare(c, 4, round))
		for from := range 7 {
			rounds = append(rounds, promise(c, 4, round, from, 0, 0))
		}
	}
	rounds = rounds[:2000]
	lawfulIs(t, c, rounds, -1)
	rounds[1999] = promise(c, 4, 1, 0, 1, 0)
	rounds[1999].Voted, rounds[1999].Round, rounds[1999].To = 1, 300, chairOf(c, 300)
	lawfulIs(t, c, rounds, 1999)
}

// P9.4: ErrArg of Voted, last.
func TestErrorsOfVoted(t *testing.T) {
	for n := 3; n <= 7; n++ {
		for _, l := range [][]api.Letter{nil, example()} {
			for _, a := range []ask{{-1, 4, 0}, {n, 4, 0}, {minInt, 4, 0}, {maxInt, 4, 0}, {1, 0, 0}, {1, -1, 0}, {1, 1<<40 + 1, 0}, {1, minInt, 0}, {1, maxInt, 0}, {n, 0, 0}} {
				round, finding, e := arbiter.Voted(court(n), l, a.who, a.id)
				equal(t, e, api.ErrArg, n, a)
				equal(t, round == 0 && finding == 0, true, n, a)
			}
		}
		votedIs(t, court(n), nil, n-1, 1<<40, 0, 0)
		votedIs(t, court(n), nil, 0, 1, 0, 0)
	}
}

// roomy returns a copy of a list with something behind its end, and a test that all of it is as it was.
func roomy(l []api.Letter) ([]api.Letter, func() bool) {
	mark := api.Letter{ID: -7}
	long := append(slices.Clone(l), mark, mark)
	before := slices.Clone(long)
	return long[:len(l)], func() bool { return slices.Equal(long, before) }
}

// spoil writes over all memory of a list.
func spoil[T any](l []T, mark T) {
	_ = append(l, mark)
	l = l[:cap(l)]
	for i := range l {
		l[i] = mark
	}
}

// first is the first one of two results.
func first[T any](x T, _ api.Errno) T { return x }

// R6: arguments are not changed, nor is what lies behind their ends; results are new memory.
func TestArgumentsStay(t *testing.T) {
	forAny(300, 50, func(d *dice, m matter, l []api.Letter) {
		l, isSame := roomy(l)
		for _, f := range allAsked() {
			f.of(m.court, l, ask{d.between(0, 2), d.of(m.ids...), d.between(1, m.rounds)})
			arbiter.Pick(m.court, among(l, m.ids[0], api.LePromise))
		}
		for _, id := range m.ids {
			spoil(first(arbiter.Proof(m.court, l, id)), api.Letter{ID: -7})
		}
		spoil(first(arbiter.Rulings(m.court, l)), api.Ruling{Case: -7})
		equal(t, isSame(), true, m, l)
	})
}

// R6: what a world tells is new memory, and what is done to it changes nothing.
func TestWorldsShareNothing(t *testing.T) {
	d := &dice{}
	for range 60 {
		how := d.weather()
		w, c := newWorld(t, how.court), newClerks(how.court)
		for range 150 {
			a := d.act(how, w.Letters())
			equal(t, w.Do(a), c.do(a))
			spoil(w.Letters(), api.Letter{ID: -7})
			spoil(w.Sent(), api.Letter{ID: -7})
			spoil(w.Cases(), -7)
			for who := range how.court.Arbiters {
				spoil(w.Known(who), api.Ruling{Case: -7})
			}
		}
		sameWorld(t, seen(w), c.view())
	}
}

// R5: acts with errors change nothing that later acts could tell, and neither does asking.
func TestErrorsChangeNothing(t *testing.T) {
	d := &dice{}
	wrong := 0
	for range 80 {
		how := d.weather()
		w, same := newWorld(t, how.court), newWorld(t, how.court)
		for range 200 {
			for range d.between(0, 3) {
				a := d.wrongAct(how, w.Letters())
				if e := same.Do(a); e == api.OK {
					good(t, w.Do(a), a)
				} else {
					wrong++
				}
				same.Book(d.between(-1, 7), d.of(how.ids...))
				same.Wish(d.between(-1, 7), d.between(0, 9))
				same.Known(d.between(-1, 7))
			}
			a := d.act(how, w.Letters())
			equal(t, w.Do(a), same.Do(a), a)
		}
		sameWorld(t, seen(same), seen(w))
	}
	equal(t, wrong > 5000, true, wrong)
}

// R7: worlds do not share anything with each other, and the same acts do the same.
func TestSameActs(t *testing.T) {
	d := &dice{}
	for range 60 {
		how := d.weather()
		w := newWorld(t, how.court)
		var acts []api.Act
		for range 200 {
			a := d.act(how, w.Letters())
			acts = append(acts, a)
			w.Do(a)
		}
		for range 2 {
			other := newWorld(t, how.court)
			for _, a := range acts {
				other.Do(a)
			}
			sameWorld(t, seen(other), seen(w))
		}
	}
}

// R7: the same lists have the same results, whatever was asked before.
func TestSameResultsAgain(t *testing.T) {
	forAny(200, 50, func(d *dice, m matter, l []api.Letter) {
		at, is, _ := arbiter.Lawful(m.court, l)
		rulings := rulingsOf(t, m.court, l)
		finding, one, any, _ := arbiter.Can(m.court, l, m.ids[0], 1)
		for range 3 {
			ends(t, three, append(example(), api.Letter{}), ask{}, api.ErrForm)
			again, isAgain, _ := arbiter.Lawful(m.court, l)
			equal(t, again, at)
			equal(t, isAgain, is)
			sameList(t, rulingsOf(t, m.court, l), rulings)
			canIs(t, m.court, l, m.ids[0], 1, finding, one, any)
		}
	})
}

// R1: no argument lets a function panic.
func TestNothingPanics(t *testing.T) {
	numbers := []int{minInt, -1, 0, 1, 2, 3, 7, 8, 63, 64, 65, 1 << 20, 1 << 40, maxInt}
	for _, n := range numbers {
		arbiter.Check(court(n))
		arbiter.Majority(court(n))
		w, _ := arbiter.New(three)
		for _, k := range numbers {
			arbiter.Chair(court(n), k)
			arbiter.Next(three, n, k)
			arbiter.Next(court(n), k, k)
			w.Do(api.Act{Kind: n, A: k, Case: k, Finding: k, N: k})
			w.Do(api.Act{Kind: k, A: n})
			w.Do(api.Act{Kind: k, N: n})
			w.Do(api.Act{Kind: k, A: n, Case: 4})
			w.Book(n, k)
			w.Wish(n, k)
			w.Known(n)
			for field := range letterFields {
				l := append(example(), spoiled(vote(4, 1, 2, 7), field, n))
				for _, f := range allAsked() {
					f.of(three, l, ask{k, k, k})
					f.of(court(k), l, ask{n, n, n})
					f.of(three, example(), ask{n, k, k})
				}
			}
		}
	}
}
