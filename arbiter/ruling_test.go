package arbiter_test

import (
	"slices"
	"testing"

	"kentledge/api"
	"kentledge/arbiter"
)

// P9.4: a ruling needs votes of a majority of different arbiters for the same in the same round.
func TestRulings(t *testing.T) {
	sameList(t, rulingsOf(t, three, nil), nil)
	sameList(t, rulingsOf(t, three, example()), []api.Ruling{ruling(4, 1, 7)})
	sameList(t, rulingsOf(t, three, example()[:5]), nil)
	sameList(t, rulingsOf(t, three, example()[4:]), []api.Ruling{ruling(4, 1, 7)})
	sameList(t, rulingsOf(t, three, append(example()[:5], again(three, example()[4], 9, 2))), nil)
	sameList(t, rulingsOf(t, three, append(example(), again(three, example()[4], 9, 2))), []api.Ruling{ruling(4, 1, 7)})
	for _, other := range []api.Letter{vote(4, 1, 1, 8), vote(4, 2, 1, 7), vote(5, 1, 1, 7), promise(three, 4, 2, 1, 1, 7), propose(three, 4, 2, 7), prepare(three, 4, 2)} {
		sameList(t, rulingsOf(t, three, append(example()[:5], other)), nil, other)
		sameList(t, rulingsOf(t, three, []api.Letter{other, example()[4]}), nil, other)
	}
	for n := 3; n <= 7; n++ {
		var l []api.Letter
		for from := range n {
			var want []api.Ruling
			if 2*len(l) > n {
				want = []api.Ruling{ruling(1<<40, 1<<20, 1<<16)}
			}
			sameList(t, rulingsOf(t, court(n), l), want, n, l)
			l = append(l, vote(1<<40, 1<<20, n-1-from, 1<<16))
		}
	}
}

// P9.4: by Case, then Round, then Finding; also several findings of one round, where a list is not lawful.
func TestRulingsInOrder(t *testing.T) {
	var all []api.Ruling
	for _, id := range []int{1, 2, 10, 1 << 40} {
		for _, round := range []int{1, 2, 10, 1 << 20} {
			for _, finding := range []int{0, 1, 2, 10, 1 << 16} {
				all = append(all, ruling(id, round, finding))
			}
		}
	}
	d := &dice{}
	for range 200 {
		var l []api.Letter
		for _, r := range all {
			for _, from := range []int{0, 2} {
				l = slices.Insert(l, d.between(0, len(l)), vote(r.Case, r.Round, from, r.Finding))
			}
		}
		sameList(t, rulingsOf(t, three, l), all)
	}
}

// P9.4: lists that are rolled, lawful or not.
func TestRulingsAtRandom(t *testing.T) {
	met := 0
	forAny(2000, 60, func(_ *dice, m matter, l []api.Letter) {
		want := rulingsByWords(m.court, l)
		sameList(t, rulingsOf(t, m.court, l), want, l)
		if len(want) > 1 {
			met++
		}
	})
	equal(t, met > 400, true, met)
}

// P9.4: the vote with the greatest round, of several the first one.
func TestVoted(t *testing.T) {
	l := append(example(), vote(4, 3, 1, 9), vote(4, 2, 1, 8), vote(4, 3, 1, 6), vote(4, 3, 1, 12), vote(5, 7, 1, 1), promise(three, 4, 9, 1, 8, 5), vote(4, 8, 2, 0))
	votedIs(t, three, l, 0, 4, 1, 7)
	votedIs(t, three, l, 1, 4, 3, 9)
	votedIs(t, three, l, 2, 4, 8, 0)
	votedIs(t, three, l, 1, 5, 7, 1)
	votedIs(t, three, l, 0, 5, 0, 0)
	votedIs(t, three, l, 0, 1, 0, 0)
	votedIs(t, three, l, 0, 1<<40, 0, 0)
	votedIs(t, three, nil, 2, 4, 0, 0)
	votedIs(t, three, example()[:4], 0, 4, 0, 0)
	slices.Reverse(l)
	votedIs(t, three, l, 1, 4, 3, 12)
	met := 0
	forAny(700, 60, func(_ *dice, m matter, l []api.Letter) {
		for who := range m.court.Arbiters {
			for _, id := range append(m.ids, 2) {
				last := lastVoteBy(l, who, id)
				votedIs(t, m.court, l, who, id, last.Round, last.Finding)
				if last.Round > 1 {
					met++
				}
			}
		}
	})
	equal(t, met > 2000, true, met)
}

// proofByWords is the first votes for the first ruling of a case.
func proofByWords(c api.Court, l []api.Letter, id int) ([]api.Letter, api.Errno) {
	for _, r := range rulingsByWords(c, l) {
		if r.Case != id {
			continue
		}
		var votes []api.Letter
		for _, x := range l {
			isNew := len(by(votes, x.From)) == 0 && !isMost(c, len(votes))
			if isNew && x.Kind == api.LeVote && ruling(x.Case, x.Round, x.Finding) == r {
				votes = append(votes, x)
			}
		}
		return votes, api.OK
	}
	return nil, api.ErrNone
}

// P9.5: the first votes of a majority, one of each arbiter, as they are.
func TestProof(t *testing.T) {
	sameList(t, proofOf(t, three, example(), 4), example()[4:])
	var l []api.Letter
	for i, from := range []int{2, 2, 0, 2, 0, 1, 1} {
		x := vote(4, 3, from, 7)
		x.ID, x.To = 100-i, i%3
		l = append(l, x, vote(4, 3, from, 6+2*(i%2)), vote(5, 3, from, 7), prepare(three, 4, 3))
	}
	sameList(t, proofOf(t, three, l, 4), []api.Letter{l[1], l[9]}) // for 6, ahead of 7 and 8
	sameList(t, proofOf(t, three, l, 5), []api.Letter{l[2], l[10]})
	sameList(t, proofOf(t, three, append(l, vote(4, 2, 1, 9), vote(4, 2, 0, 9)), 4), []api.Letter{vote(4, 2, 1, 9), vote(4, 2, 0, 9)})
	met := map[api.Errno]int{}
	forAny(1500, 60, func(_ *dice, m matter, l []api.Letter) {
		for _, id := range append(m.ids, 2) {
			want, wrong := proofByWords(m.court, l, id)
			votes, e := arbiter.Proof(m.court, l, id)
			equal(t, e, wrong, m, l)
			sameList(t, votes, want, m, l)
			met[e]++
		}
	})
	enough(t, met, 1000, api.OK, api.ErrNone)
}

// P9.5: ErrArg if it is no case, then ErrNone if nothing was ruled in it.
func TestErrorsOfProof(t *testing.T) {
	for _, id := range []int{0, -1, -4, 1<<40 + 1, minInt, maxInt} {
		for _, l := range [][]api.Letter{nil, example(), second()} {
			votes, e := arbiter.Proof(three, l, id)
			equal(t, e, api.ErrArg, id)
			equal(t, len(votes), 0, id)
		}
	}
	for _, id := range []int{1, 3, 5, 1 << 40} {
		votes, e := arbiter.Proof(three, example(), id)
		equal(t, e, api.ErrNone, id)
		equal(t, len(votes), 0, id)
	}
	votes, e := arbiter.Proof(three, example()[:5], 4)
	equal(t, e, api.ErrNone)
	equal(t, len(votes), 0)
	greatest := []api.Letter{vote(1<<40, 1, 2, 0), vote(1<<40, 1, 0, 0)}
	sameList(t, proofOf(t, three, greatest, 1<<40), greatest)
	least := []api.Letter{vote(1, 1, 2, 0), vote(1, 1, 0, 0)}
	sameList(t, proofOf(t, three, least, 1), least)
}

// showIs fails unless CheckRuling returns these.
func showIs(t *testing.T, c api.Court, votes []api.Letter, want api.Ruling, wrong api.Errno) {
	t.Helper()
	r, e := arbiter.CheckRuling(c, votes)
	equal(t, e, wrong, c, votes)
	equal(t, r, want, c, votes)
}

// P9.5: votes for one ruling by at least a majority, no two by the same arbiter.
func TestCheckRuling(t *testing.T) {
	a, b := vote(4, 1, 0, 7), vote(4, 1, 1, 7)
	showIs(t, three, []api.Letter{a, b}, ruling(4, 1, 7), api.OK)
	showIs(t, three, []api.Letter{b, a}, ruling(4, 1, 7), api.OK)
	showIs(t, three, []api.Letter{b, vote(4, 1, 2, 7), a}, ruling(4, 1, 7), api.OK)
	showIs(t, three, []api.Letter{again(three, a, 9, 2), again(three, b, 9, 1)}, ruling(4, 1, 7), api.OK)
	showIs(t, three, []api.Letter{vote(1<<40, 1<<20, 0, 1<<16), vote(1<<40, 1<<20, 2, 1<<16)}, ruling(1<<40, 1<<20, 1<<16), api.OK)
	showIs(t, three, []api.Letter{vote(1, 1, 0, 0), vote(1, 1, 2, 0)}, ruling(1, 1, 0), api.OK)
	for _, l := range [][]api.Letter{
		nil, {}, {a}, {a, a}, {a, again(three, a, 9, 2)}, {a, b, b}, {a, b, a}, {a, b, again(three, b, 9, 2)},
		{a, vote(4, 1, 1, 8)}, {a, vote(4, 2, 1, 7)}, {a, vote(5, 1, 1, 7)},
		{a, b, vote(4, 1, 2, 8)}, {a, b, vote(4, 2, 2, 7)}, {a, b, vote(5, 1, 2, 7)}, {vote(5, 1, 2, 7), a, b}, {vote(4, 1, 2, 8), a, b}, {vote(4, 1, 0, 8), a, b},
		{a, b, propose(three, 4, 1, 7)}, {a, b, prepare(three, 4, 1)}, {a, b, promise(three, 4, 1, 2, 0, 0)}, {promise(three, 4, 2, 2, 1, 7), a, b},
		{a, propose(three, 4, 2, 7)}, {propose(three, 4, 1, 7), propose(three, 4, 1, 7)},
		{vote(4, 1, 0, 7), vote(4, 1, 1, 7), vote(4, 2, 0, 7), vote(4, 2, 1, 7)},
		example(),
	} {
		showIs(t, three, l, api.Ruling{}, api.ErrProof)
	}
	for n := 3; n <= 7; n++ {
		var l []api.Letter
		for from := range n {
			l = append(l, vote(4, 1, from, 7))
			if 2*len(l) > n {
				showIs(t, court(n), l, ruling(4, 1, 7), api.OK)
				showIs(t, court(n), append(l, l[0]), api.Ruling{}, api.ErrProof)
			} else {
				showIs(t, court(n), l, api.Ruling{}, api.ErrProof)
			}
		}
	}
}

// P9.5: votes that are rolled.
func TestCheckRulingAtRandom(t *testing.T) {
	d := &dice{}
	met := map[api.Errno]int{}
	for range 30000 {
		m := d.matter()
		var votes []api.Letter
		for from := range m.court.Arbiters {
			x := vote(4, 2, from, 1)
			if d.one(30) {
				x = d.letter(m, d.between(1, 4))
			}
			if d.one(30) {
				x.From = 0
			}
			if !d.one(5) && arbiter.Formed(m.court, x) {
				votes = append(votes, again(m.court, x, d.between(0, 9), d.between(0, 6)))
			}
		}
		want := len(votes) > 0 && isMost(m.court, len(votes))
		for i, x := range votes {
			want = want && x.Kind == api.LeVote && ruling(x.Case, x.Round, x.Finding) == ruling(votes[0].Case, votes[0].Round, votes[0].Finding) && len(by(votes[:i], x.From)) == 0
		}
		if want {
			showIs(t, m.court, votes, ruling(votes[0].Case, votes[0].Round, votes[0].Finding), api.OK)
			met[api.OK]++
		} else {
			showIs(t, m.court, votes, api.Ruling{}, api.ErrProof)
			met[api.ErrProof]++
		}
	}
	enough(t, met, 1000, api.OK, api.ErrProof)
}
