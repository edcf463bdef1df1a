package arbiter_test

import (
	"slices"
	"testing"

	"kentledge/api"
	"kentledge/arbiter"
)

// P9.6: the chapter's examples, and each step of them.
func TestCanExamples(t *testing.T) {
	canIs(t, three, example()[:4], 4, 1, 7, true, false)
	late := append(example()[:5], prepare(three, 4, 2), promise(three, 4, 2, 1, 0, 0), promise(three, 4, 2, 2, 0, 0))
	canIs(t, three, late, 4, 1, 0, false, false)
	canIs(t, three, late[:7], 4, 1, 7, true, false)
	canIs(t, three, late, 4, 2, 0, false, true)
	canIs(t, three, nil, 4, 1, 0, false, true)
	canIs(t, three, nil, 1<<40, 1<<20, 0, false, true)
	for n := range 4 {
		canIs(t, three, example()[:n], 4, 1, 0, false, true)
	}
	for n := 4; n <= 6; n++ {
		canIs(t, three, example()[:n], 4, 1, 7, true, false)
		canIs(t, three, example()[:n], 4, 2, 0, false, true)
		canIs(t, three, example()[:n], 5, 1, 0, false, true)
	}
}

// P9.6: of several that are proposed the first one counts, and votes for it, and arbiters that are open.
func TestCanOfSeveral(t *testing.T) {
	seven, eight := propose(three, 4, 2, 7), propose(three, 4, 2, 8)
	canIs(t, three, []api.Letter{seven, eight}, 4, 2, 7, true, false)
	canIs(t, three, []api.Letter{eight, seven}, 4, 2, 8, true, false)
	canIs(t, three, []api.Letter{propose(three, 4, 2, 0)}, 4, 2, 0, true, false)
	canIs(t, three, []api.Letter{seven, vote(4, 2, 0, 8)}, 4, 2, 7, true, false)
	canIs(t, three, []api.Letter{seven, vote(4, 2, 0, 8), vote(4, 2, 1, 8)}, 4, 2, 0, false, false)
	canIs(t, three, []api.Letter{seven, vote(4, 2, 0, 8), vote(4, 2, 0, 7), vote(4, 2, 1, 8)}, 4, 2, 7, true, false)
	canIs(t, three, []api.Letter{seven, vote(4, 2, 0, 8), vote(4, 2, 0, 8)}, 4, 2, 7, true, false)
	canIs(t, three, []api.Letter{vote(4, 2, 0, 8), vote(4, 2, 1, 8), eight}, 4, 2, 8, true, false)
	canIs(t, three, []api.Letter{vote(4, 2, 0, 8), vote(4, 2, 1, 8)}, 4, 2, 0, false, false)
	canIs(t, three, []api.Letter{vote(4, 2, 0, 8)}, 4, 2, 0, false, true)
	canIs(t, three, []api.Letter{propose(three, 5, 2, 7), propose(three, 4, 5, 7)}, 4, 2, 0, false, true)
}

// P9.6: an arbiter is open until it votes in the round, or has a word in a greater one.
func TestCanOfOpen(t *testing.T) {
	for n := 3; n <= 7; n++ {
		c := court(n)
		open := []api.Letter{
			promise(c, 4, 2, 0, 0, 0), promise(c, 4, 1, 0, 0, 0), vote(4, 1, 0, 7), vote(5, 2, 0, 7), vote(5, 3, 0, 7),
			promise(c, 5, 3, 0, 0, 0), prepare(c, 4, 3), propose(c, 4, 3, 7), prepare(c, 4, 2),
		}
		closing := []api.Letter{promise(c, 4, 3, 0, 0, 0), promise(c, 4, 3, 0, 2, 7), vote(4, 3, 0, 7), vote(4, 2, 0, 9), promise(c, 4, 1<<20, 0, 0, 0)}
		for _, x := range open {
			canIs(t, c, each(c, x, n), 4, 2, 0, false, true)
			canIs(t, c, append(each(c, x, n), propose(c, 4, 2, 7)), 4, 2, 7, true, false)
		}
		for _, x := range closing {
			for closed := range n + 1 {
				can := 2*(n-closed) > n
				canIs(t, c, each(c, x, closed), 4, 2, 0, false, can)
				finding := 0
				if can {
					finding = 7
				}
				canIs(t, c, append(each(c, x, closed), propose(c, 4, 2, 7)), 4, 2, finding, can, false)
			}
		}
	}
}

// each is a letter from so many arbiters, where it can be from any of them.
func each(c api.Court, x api.Letter, n int) []api.Letter {
	var l []api.Letter
	for from := range n {
		if x.Kind == api.LePromise || x.Kind == api.LeVote {
			x.From = from
		}
		l = append(l, x)
	}
	return l
}

// P9.6: lists that are rolled, lawful or not.
func TestCanAtRandom(t *testing.T) {
	met := map[[3]bool]int{}
	forAny(1500, 50, func(_ *dice, m matter, l []api.Letter) {
		for _, id := range append(m.ids, 2) {
			for round := 1; round <= m.rounds+1; round++ {
				finding, one, any := canByWords(m.court, l, id, round)
				canIs(t, m.court, l, id, round, finding, one, any)
				met[[3]bool{len(inRound(among(l, id, api.LePropose), round)) > 0, one, any}]++
			}
		}
	})
	enough(t, met, 500, [3]bool{true, true, false}, [3]bool{true, false, false}, [3]bool{false, false, true}, [3]bool{false, false, false})
}

// P9.6: ErrArg if it is no case, or no round.
func TestErrorsOfCan(t *testing.T) {
	fails := func(l []api.Letter, id, round int) {
		t.Helper()
		finding, one, any, e := arbiter.Can(three, l, id, round)
		equal(t, e, api.ErrArg, id, round)
		equal(t, finding, 0, id, round)
		equal(t, one || any, false, id, round)
	}
	for _, l := range [][]api.Letter{nil, example(), slices.Repeat(example(), 9)} {
		for _, id := range []int{0, -1, 1<<40 + 1, minInt, maxInt} {
			fails(l, id, 1)
			fails(l, id, 0)
		}
		for _, round := range []int{0, -1, 1<<20 + 1, minInt, maxInt} {
			fails(l, 4, round)
		}
	}
	canIs(t, three, example(), 4, 1<<20, 0, false, true)
	canIs(t, three, example(), 1, 1, 0, false, true)
}
