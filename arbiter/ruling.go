package arbiter

import (
	"cmp"
	"slices"

	"kentledge/api"
)

// tally is the arbiters that have voted, by what for.
type tally map[api.Ruling]group

// tallyOf returns the tally of all votes among some letters.
func tallyOf(l []api.Letter) tally {
	t := tally{}
	for _, x := range l {
		if x.Kind == api.LeVote {
			t.count(x)
		}
	}
	return t
}

// rulingOf returns what a vote is for.
func rulingOf(vote api.Letter) api.Ruling {
	return api.Ruling{Case: vote.Case, Round: vote.Round, Finding: vote.Finding}
}

// count adds a vote.
func (t tally) count(vote api.Letter) {
	r := rulingOf(vote)
	t[r] = t[r].with(vote.From)
}

// rulings returns all that a majority has voted for, in order.
func (t tally) rulings(c api.Court) []api.Ruling {
	var l []api.Ruling
	for r, voters := range t {
		if voters.isMajority(c) {
			l = append(l, r)
		}
	}
	slices.SortFunc(l, func(a, b api.Ruling) int {
		return cmp.Or(cmp.Compare(a.Case, b.Case), cmp.Compare(a.Round, b.Round), cmp.Compare(a.Finding, b.Finding))
	})
	return l
}

// Rulings returns all findings for which a majority has voted.
func Rulings(c api.Court, l []api.Letter) ([]api.Ruling, api.Errno) {
	if e := checkLetters(c, l); e != api.OK {
		return nil, e
	}
	return tallyOf(l).rulings(c), api.OK
}

// Proof returns votes that show the ruling in a case.
func Proof(c api.Court, l []api.Letter, id int) ([]api.Letter, api.Errno) {
	if e := checkAsked(c, l, isCase(id)); e != api.OK {
		return nil, e
	}
	rulings := tallyOf(l).rulings(c)
	first := slices.IndexFunc(rulings, func(r api.Ruling) bool { return r.Case == id })
	if first < 0 {
		return nil, api.ErrNone
	}
	return votesFor(c, l, rulings[first]), api.OK
}

// votesFor returns the first votes for a ruling, one of each arbiter, of a majority.
func votesFor(c api.Court, l []api.Letter, r api.Ruling) []api.Letter {
	var votes []api.Letter
	for _, x := range l {
		if x.Kind != api.LeVote || rulingOf(x) != r || slices.ContainsFunc(votes, isBy(x.From)) {
			continue
		}
		votes = append(votes, x)
		if len(votes) == Majority(c) {
			break
		}
	}
	return votes
}

// isBy returns a test whether a letter is by an arbiter.
func isBy(arbiter int) func(api.Letter) bool {
	return func(x api.Letter) bool { return x.From == arbiter }
}

// CheckRuling returns the ruling that votes show.
func CheckRuling(c api.Court, votes []api.Letter) (api.Ruling, api.Errno) {
	if e := checkLetters(c, votes); e != api.OK {
		return api.Ruling{}, e
	}
	rulings := tallyOf(votes).rulings(c)
	if len(rulings) == 0 {
		return api.Ruling{}, api.ErrProof
	}
	for i, x := range votes {
		if x.Kind != api.LeVote || rulingOf(x) != rulings[0] || slices.ContainsFunc(votes[:i], isBy(x.From)) {
			return api.Ruling{}, api.ErrProof
		}
	}
	return rulings[0], api.OK
}

// Can returns the finding that can still be ruled in a round, or whether any one can.
func Can(c api.Court, l []api.Letter, id, round int) (int, bool, bool, api.Errno) {
	if e := checkAsked(c, l, isCase(id), isRound(round)); e != api.OK {
		return 0, false, false, e
	}
	able := group(0)
	for arbiter := range c.Arbiters {
		if isOpen(l, arbiter, id, round) {
			able = able.with(arbiter)
		}
	}
	finding, is := proposed(l, id, round)
	if !is {
		return 0, false, able.isMajority(c), api.OK
	}
	able |= tallyOf(l)[api.Ruling{Case: id, Round: round, Finding: finding}]
	if !able.isMajority(c) {
		return 0, false, false, api.OK
	}
	return finding, true, false, api.OK
}
