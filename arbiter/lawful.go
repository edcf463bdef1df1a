package arbiter

import (
	"iter"
	"slices"

	"kentledge/api"
)

// Pick returns what is to be proposed behind some promises.
func Pick(c api.Court, promises []api.Letter) (int, bool, api.Errno) {
	if e := checkLetters(c, promises); e != api.OK {
		return 0, false, e
	}
	if !agree(promises) {
		return 0, false, api.ErrArg
	}
	if len(promises) < Majority(c) {
		return 0, false, api.ErrNone
	}
	last := api.Letter{}
	for _, p := range promises {
		if p.Voted > last.Voted {
			last = p
		}
	}
	return last.Finding, last.Voted > 0, api.OK
}

// agree reports whether all letters are promises of one round of one case, by different arbiters, and tell one finding of each round.
func agree(l []api.Letter) bool {
	for i, x := range l {
		if x.Kind != api.LePromise || x.Case != l[0].Case || x.Round != l[0].Round {
			return false
		}
		if slices.ContainsFunc(l[:i], func(y api.Letter) bool { return y.From == x.From || y.Voted == x.Voted && y.Finding != x.Finding }) {
			return false
		}
	}
	return true
}

// Lawful reports whether letters can have been sent one after the other, and returns the first one that cannot.
func Lawful(c api.Court, l []api.Letter) (int, bool, api.Errno) {
	if e := checkLetters(c, l); e != api.OK {
		return 0, false, e
	}
	at := firstUnlawful(c, l)
	return at, at < 0, api.OK
}

// firstUnlawful returns the index of the first letter that is not lawful, or -1.
func firstUnlawful(c api.Court, l []api.Letter) int {
	at := -1
	said := map[int][]api.Letter{} // of each case, each once
search:
	for i, x := range l {
		ahead := said[x.Case]
		switch {
		case slices.ContainsFunc(ahead, func(y api.Letter) bool { return Alike(x, y) }):
			continue
		case canSay(c, ahead, x):
			said[x.Case] = append(ahead, x)
		default:
			at = i
			break search
		}
	}
	return at
}

// canSay reports whether a letter that says something new is lawful behind others of its case.
func canSay(c api.Court, ahead []api.Letter, x api.Letter) bool {
	switch x.Kind {
	case api.LePromise:
		return canPromise(ahead, x)
	case api.LePropose:
		return canPropose(c, ahead, x)
	case api.LeVote:
		return canVote(ahead, x)
	}
	return true
}

func canPromise(ahead []api.Letter, x api.Letter) bool {
	isBegun := slices.ContainsFunc(ahead, func(y api.Letter) bool { return y.Kind == api.LePrepare && y.Round == x.Round })
	voted, finding := lastVote(ahead, x.From, x.Case)
	return isBegun && lastWord(ahead, x.From, x.Case) < x.Round && x.Voted == voted && x.Finding == finding
}

func canPropose(c api.Court, ahead []api.Letter, x api.Letter) bool {
	if _, is := proposed(ahead, x.Case, x.Round); is {
		return false
	}
	if votedUpTo(ahead, x.Round, 0).isMajority(c) {
		return true
	}
	for p := range promises(ahead, x.Round) {
		if p.Voted > 0 && p.Finding == x.Finding && votedUpTo(ahead, x.Round, p.Voted).isMajority(c) {
			return true
		}
	}
	return false
}

func canVote(ahead []api.Letter, x api.Letter) bool {
	finding, is := proposed(ahead, x.Case, x.Round)
	return is && finding == x.Finding && isOpen(ahead, x.From, x.Case, x.Round)
}

// proposed returns the finding of the first letter that proposes one in a round of a case, and whether there is one.
func proposed(l []api.Letter, id, round int) (int, bool) {
	at := slices.IndexFunc(l, func(x api.Letter) bool {
		return x.Kind == api.LePropose && x.Case == id && x.Round == round
	})
	if at < 0 {
		return 0, false
	}
	return l[at].Finding, true
}

// promises yields the promises of a round among letters of one case. Where they are lawful, and each stands once, there is one of each arbiter at most.
func promises(ahead []api.Letter, round int) iter.Seq[api.Letter] {
	return func(yield func(api.Letter) bool) {
		for _, x := range ahead {
			if x.Kind == api.LePromise && x.Round == round && !yield(x) {
				return
			}
		}
	}
}

// votedUpTo returns the arbiters that have promised for a round, and by their promises did not vote in a round greater than the last one.
func votedUpTo(ahead []api.Letter, round, last int) group {
	some := group(0)
	for p := range promises(ahead, round) {
		if p.Voted <= last {
			some = some.with(p.From)
		}
	}
	return some
}
