package arbiter

import (
	"math/bits"

	"kentledge/api"
)

// group is some arbiters, as bits.
type group uint

func (g group) with(arbiter int) group { return g | 1<<arbiter }

func (g group) isMajority(c api.Court) bool { return bits.OnesCount(uint(g)) >= Majority(c) }

// isWord reports whether a letter is one of the words of an arbiter in a case.
func isWord(x api.Letter, arbiter, id int) bool {
	return x.Case == id && x.From == arbiter && (x.Kind == api.LePromise || x.Kind == api.LeVote)
}

// lastWord returns the greatest round of the words of an arbiter in a case; 0 if there are none.
func lastWord(l []api.Letter, arbiter, id int) int {
	last := 0
	for _, x := range l {
		if isWord(x, arbiter, id) {
			last = max(last, x.Round)
		}
	}
	return last
}

// lastVote returns the round and the finding of the vote of an arbiter in a case that has the greatest round; zeros if there is none.
func lastVote(l []api.Letter, arbiter, id int) (round, finding int) {
	for _, x := range l {
		if x.Kind == api.LeVote && isWord(x, arbiter, id) && x.Round > round {
			round, finding = x.Round, x.Finding
		}
	}
	return round, finding
}

// isOpen reports whether an arbiter is open in a round of a case.
func isOpen(l []api.Letter, arbiter, id, round int) bool {
	voted, _ := lastVote(l, arbiter, id)
	return voted < round && lastWord(l, arbiter, id) <= round
}

// Voted returns the last vote of an arbiter in a case.
func Voted(c api.Court, l []api.Letter, arbiter, id int) (int, int, api.Errno) {
	if e := checkAsked(c, l, isArbiter(c, arbiter), isCase(id)); e != api.OK {
		return 0, 0, e
	}
	round, finding := lastVote(l, arbiter, id)
	return round, finding, api.OK
}
