package arbiter_test

import (
	"slices"
	"testing"

	"kentledge/api"
	"kentledge/arbiter"
)

// pickIs fails unless Pick returns these.
func pickIs(t *testing.T, c api.Court, l []api.Letter, finding int, bound bool, wrong api.Errno) {
	t.Helper()
	n, is, e := arbiter.Pick(c, l)
	equal(t, e, wrong, c, l)
	equal(t, n, finding, c, l)
	equal(t, is, bound, c, l)
}

// pickByWords is what Pick returns for formed letters.
func pickByWords(c api.Court, l []api.Letter) (int, bool, api.Errno) {
	greatest := api.Letter{}
	for i, x := range l {
		if x.Kind != api.LePromise {
			return 0, false, api.ErrArg
		}
		for _, y := range l[i+1:] {
			if x.Case != y.Case || x.Round != y.Round || x.From == y.From {
				return 0, false, api.ErrArg
			}
			if x.Voted > 0 && x.Voted == y.Voted && x.Finding != y.Finding {
				return 0, false, api.ErrArg
			}
		}
		if x.Voted >= greatest.Voted {
			greatest = x
		}
	}
	if !isMost(c, len(l)) {
		return 0, false, api.ErrNone
	}
	if greatest.Voted == 0 {
		return 0, false, api.OK
	}
	return greatest.Finding, true, api.OK
}

// P9.2: the finding of the promise with the greatest Voted, in whatever order they stand.
func TestPick(t *testing.T) {
	a, b := promise(three, 4, 5, 0, 0, 0), promise(three, 4, 5, 1, 3, 7)
	pickIs(t, three, []api.Letter{a, b}, 7, true, api.OK)
	pickIs(t, three, []api.Letter{b, a}, 7, true, api.OK)
	pickIs(t, three, []api.Letter{a, promise(three, 4, 5, 2, 0, 0)}, 0, false, api.OK)
	pickIs(t, three, []api.Letter{a, b, promise(three, 4, 5, 2, 4, 8)}, 8, true, api.OK)
	pickIs(t, three, []api.Letter{promise(three, 4, 5, 2, 2, 9), b, a}, 7, true, api.OK)
	pickIs(t, three, []api.Letter{a, promise(three, 4, 5, 2, 1, 0)}, 0, true, api.OK)
	pickIs(t, three, []api.Letter{b, promise(three, 4, 5, 2, 3, 7)}, 7, true, api.OK)
	pickIs(t, three, []api.Letter{b, promise(three, 4, 5, 2, 2, 7)}, 7, true, api.OK)
	pickIs(t, three, []api.Letter{b, promise(three, 4, 5, 2, 2, 6)}, 7, true, api.OK)
	b.ID, a.ID = 1<<40, 3
	pickIs(t, three, []api.Letter{a, b}, 7, true, api.OK)
	last := []api.Letter{promise(three, 1<<40, 1<<20, 0, 1<<20-1, 1<<16), promise(three, 1<<40, 1<<20, 2, 1<<20-2, 0)}
	pickIs(t, three, last, 1<<16, true, api.OK)
}

// P9.2: promises of less than a majority are none, and those of more are fine.
func TestPickOfFew(t *testing.T) {
	for n := 3; n <= 7; n++ {
		var l []api.Letter
		for from := range n + 1 {
			if 2*len(l) > n {
				pickIs(t, court(n), l, 0, false, api.OK)
			} else {
				pickIs(t, court(n), l, 0, false, api.ErrNone)
			}
			l = append(l, promise(court(n), 4, 9, from, 0, 0))
		}
		pickIs(t, court(n), l, 0, false, api.ErrForm) // the last one is by no arbiter
	}
}

// wrongPromises lists promises that are not to be picked from.
func wrongPromises() [][]api.Letter {
	a, b := promise(three, 4, 5, 0, 0, 0), promise(three, 4, 5, 1, 3, 7)
	return [][]api.Letter{
		{a, a}, {a, b, b}, {b, a, b}, {a, again(three, a, 8, 0)}, {a, promise(three, 4, 5, 0, 3, 7), b},
		{a, promise(three, 5, 5, 1, 3, 7)}, {promise(three, 5, 5, 1, 3, 7), a, promise(three, 4, 5, 2, 0, 0)},
		{a, promise(three, 4, 8, 1, 3, 7)}, {a, promise(three, 4, 6, 1, 3, 7)},
		{b, promise(three, 4, 5, 2, 3, 8)}, {b, a, promise(three, 4, 5, 2, 3, 0)}, {promise(three, 4, 5, 2, 3, 8), a, b},
		{promise(three, 4, 5, 0, 4, 1), b, promise(three, 4, 5, 2, 3, 8)},
		{a, prepare(three, 4, 5)}, {prepare(three, 4, 5), b}, {a, b, propose(three, 4, 5, 7)}, {a, b, vote(4, 5, 2, 7)}, {vote(4, 5, 2, 7), vote(4, 5, 1, 7)},
		{propose(three, 4, 5, 7)}, {prepare(three, 4, 5)}, {vote(4, 5, 2, 7)}, // ahead of ErrNone
	}
}

// P9.2: not all promises of one round, two of one arbiter, and two findings of one round.
func TestErrorsOfPick(t *testing.T) {
	for _, l := range wrongPromises() {
		pickIs(t, three, l, 0, false, api.ErrArg)
		pickIs(t, court(7), []api.Letter{promise(court(7), 4, 5, 0, 0, 0), promise(court(7), 4, 5, 0, 0, 0)}, 0, false, api.ErrArg)
	}
	a, b := promise(three, 4, 5, 0, 0, 0), promise(three, 4, 5, 1, 3, 7)
	pickIs(t, three, nil, 0, false, api.ErrNone)
	pickIs(t, three, []api.Letter{}, 0, false, api.ErrNone)
	pickIs(t, three, []api.Letter{a}, 0, false, api.ErrNone)
	pickIs(t, three, []api.Letter{b}, 0, false, api.ErrNone)
	pickIs(t, court(5), []api.Letter{promise(court(5), 4, 5, 1, 0, 0), promise(court(5), 4, 5, 2, 2, 3)}, 0, false, api.ErrNone)
	pickIs(t, court(2), []api.Letter{a, b}, 0, false, api.ErrArg)
	pickIs(t, three, []api.Letter{a, promise(three, 4, 5, 1, 5, 7)}, 0, false, api.ErrForm)
	pickIs(t, three, []api.Letter{a, a, {}}, 0, false, api.ErrForm)
}

// P9.2: promises that are rolled.
func TestPickAtRandom(t *testing.T) {
	d := &dice{}
	met := map[api.Errno]int{}
	bounds := map[bool]int{}
	for range 40000 {
		c := d.court()
		var l []api.Letter
		for from := range c.Arbiters {
			x := promise(c, 4, 6, from, d.of(0, 0, 1, 2, 3, 4, 5), 0)
			if x.Voted > 0 {
				x.Finding = x.Voted % 3
			}
			if d.one(20) {
				x.From = d.between(0, c.Arbiters-1)
			}
			if x.Voted > 0 && d.one(20) {
				x.Finding = d.between(0, 3)
			}
			if !d.one(4) {
				l = append(l, again(c, x, d.between(0, 9), 0))
			}
		}
		for i := range l {
			j := d.between(0, i)
			l[i], l[j] = l[j], l[i]
		}
		finding, bound, e := pickByWords(c, l)
		pickIs(t, c, l, finding, bound, e)
		met[e]++
		bounds[bound]++
		slices.Reverse(l)
		pickIs(t, c, l, finding, bound, e)
	}
	enough(t, met, 1000, api.OK, api.ErrArg, api.ErrNone)
	enough(t, bounds, 1000, true, false)
}
