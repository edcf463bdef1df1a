package arbiter_test

import (
	"slices"
	"testing"

	"kentledge/api"
	"kentledge/arbiter"
)

const (
	minInt = -1 << 63
	maxInt = 1<<63 - 1
)

// court is one of so many arbiters.
func court(n int) api.Court { return api.Court{Arbiters: n} }

var three = court(3)

// chairOf is the arbiter that comes for a round if they come one behind the other.
func chairOf(c api.Court, round int) int {
	if round <= c.Arbiters {
		return round - 1
	}
	return (round - 1) % c.Arbiters
}

func prepare(c api.Court, id, round int) api.Letter {
	return api.Letter{Case: id, Kind: api.LePrepare, Round: round, From: chairOf(c, round)}
}

func promise(c api.Court, id, round, from, voted, finding int) api.Letter {
	return api.Letter{Case: id, Kind: api.LePromise, Round: round, From: from, To: chairOf(c, round), Voted: voted, Finding: finding}
}

func propose(c api.Court, id, round, finding int) api.Letter {
	return api.Letter{Case: id, Kind: api.LePropose, Round: round, From: chairOf(c, round), Finding: finding}
}

func vote(id, round, from, finding int) api.Letter {
	return api.Letter{Case: id, Kind: api.LeVote, Round: round, From: from, Finding: finding}
}

func ruling(id, round, finding int) api.Ruling {
	return api.Ruling{Case: id, Round: round, Finding: finding}
}

// example is the letters of the chapter's example, about the case 4.
func example() []api.Letter {
	return []api.Letter{
		prepare(three, 4, 1),
		promise(three, 4, 1, 0, 0, 0),
		promise(three, 4, 1, 1, 0, 0),
		propose(three, 4, 1, 7),
		vote(4, 1, 0, 7),
		vote(4, 1, 1, 7),
	}
}

// second is the example with a second round, up to its promises.
func second() []api.Letter {
	return append(example(), prepare(three, 4, 2), promise(three, 4, 2, 1, 1, 7), promise(three, 4, 2, 2, 0, 0))
}

// again is a letter that says the same, with another ID, and to another arbiter where that is formed.
func again(c api.Court, x api.Letter, id, to int) api.Letter {
	x.ID = id
	if x.Kind != api.LePromise {
		x.To = to % c.Arbiters
	}
	return x
}

// dice rolls numbers, the same ones in each run.
type dice struct{ state uint64 }

func (d *dice) between(lo, hi int) int {
	d.state = d.state*6364136223846793005 + 1442695040888963407
	return lo + int((d.state>>33)%uint64(hi-lo+1))
}

// one tells whether a die of so many sides shows its first one.
func (d *dice) one(sides int) bool { return d.between(1, sides) == 1 }

// of rolls one of some numbers.
func (d *dice) of(l ...int) int { return l[d.between(0, len(l)-1)] }

// court rolls one, rather a small one.
func (d *dice) court() api.Court { return court(d.of(3, 3, 3, 4, 4, 5, 6, 7)) }

// saysTheSame tells whether letters are equal but for their IDs, and to whom they go.
func saysTheSame(x, y api.Letter) bool {
	return x.Case == y.Case && x.Kind == y.Kind && x.Round == y.Round && x.From == y.From && x.Voted == y.Voted && x.Finding == y.Finding
}

// only is those letters that are meant.
func only(l []api.Letter, isMeant func(api.Letter) bool) []api.Letter {
	var some []api.Letter
	for _, x := range l {
		if isMeant(x) {
			some = append(some, x)
		}
	}
	return some
}

// among is the letters of one kind in one case.
func among(l []api.Letter, id, kind int) []api.Letter {
	return only(l, func(x api.Letter) bool { return x.Case == id && x.Kind == kind })
}

// by is those letters that are by one arbiter.
func by(l []api.Letter, arbiter int) []api.Letter {
	return only(l, func(x api.Letter) bool { return x.From == arbiter })
}

// inRound is those letters that are of one round.
func inRound(l []api.Letter, round int) []api.Letter {
	return only(l, func(x api.Letter) bool { return x.Round == round })
}

// wordsBy is the words of an arbiter in a case.
func wordsBy(l []api.Letter, arbiter, id int) []api.Letter {
	return only(l, func(x api.Letter) bool {
		return x.From == arbiter && x.Case == id && (x.Kind == api.LePromise || x.Kind == api.LeVote)
	})
}

// votesBy is the votes of an arbiter in a case.
func votesBy(l []api.Letter, arbiter, id int) []api.Letter {
	return among(wordsBy(l, arbiter, id), id, api.LeVote)
}

// lastVoteBy is the vote of an arbiter in a case with the greatest round, the first one of several; a letter of zeros if there is none.
func lastVoteBy(l []api.Letter, arbiter, id int) api.Letter {
	last := api.Letter{}
	votes := votesBy(l, arbiter, id)
	for i := len(votes) - 1; i >= 0; i-- {
		if votes[i].Round >= last.Round {
			last = votes[i]
		}
	}
	return last
}

// openByWords tells whether an arbiter is open in a round of a case.
func openByWords(l []api.Letter, arbiter, id, round int) bool {
	if len(inRound(votesBy(l, arbiter, id), round)) > 0 {
		return false
	}
	for _, x := range wordsBy(l, arbiter, id) {
		if x.Round > round {
			return false
		}
	}
	return true
}

// isMost tells whether so many arbiters are more than half of a court.
func isMost(c api.Court, n int) bool { return 2*n > c.Arbiters }

// proposableByWords tells whether a finding can be proposed in a round of a case.
func proposableByWords(c api.Court, l []api.Letter, id, round, finding int) bool {
	voted := map[int]int{} // by their arbiters
	of := map[int]int{}
	for _, x := range inRound(among(l, id, api.LePromise), round) {
		voted[x.From], of[x.From] = x.Voted, x.Finding
	}
	upTo := func(k int) int {
		n := 0
		for _, v := range voted {
			if v <= k {
				n++
			}
		}
		return n
	}
	if isMost(c, upTo(0)) {
		return true
	}
	for from, k := range voted {
		if k > 0 && of[from] == finding && isMost(c, upTo(k)) {
			return true
		}
	}
	return false
}

// lawfulByWords tells whether a letter is lawful behind others, by the words of the chapter.
func lawfulByWords(c api.Court, ahead []api.Letter, x api.Letter) bool {
	for _, y := range ahead {
		if saysTheSame(x, y) {
			return true
		}
	}
	switch x.Kind {
	case api.LePromise:
		for _, y := range wordsBy(ahead, x.From, x.Case) {
			if y.Round >= x.Round {
				return false
			}
		}
		last := lastVoteBy(ahead, x.From, x.Case)
		begun := inRound(among(ahead, x.Case, api.LePrepare), x.Round)
		return len(begun) > 0 && x.Voted == last.Round && x.Finding == last.Finding
	case api.LePropose:
		proposed := inRound(among(ahead, x.Case, api.LePropose), x.Round)
		return len(proposed) == 0 && proposableByWords(c, ahead, x.Case, x.Round, x.Finding)
	case api.LeVote:
		for _, y := range wordsBy(ahead, x.From, x.Case) {
			if y.Round > x.Round || y.Kind == api.LeVote && y.Round == x.Round {
				return false
			}
		}
		proposed := inRound(among(ahead, x.Case, api.LePropose), x.Round)
		return slices.ContainsFunc(proposed, func(y api.Letter) bool { return y.Finding == x.Finding })
	}
	return true
}

// firstUnlawfulByWords is the index of the first letter that is not lawful, or -1.
func firstUnlawfulByWords(c api.Court, l []api.Letter) int {
	for i, x := range l {
		if !lawfulByWords(c, l[:i], x) {
			return i
		}
	}
	return -1
}

// rulingsByWords goes through all cases, rounds and findings of votes.
func rulingsByWords(c api.Court, l []api.Letter) []api.Ruling {
	var rulings []api.Ruling
	for _, x := range l {
		r := ruling(x.Case, x.Round, x.Finding)
		n := 0
		for arbiter := range c.Arbiters {
			if slices.ContainsFunc(l, func(y api.Letter) bool {
				return y.Kind == api.LeVote && y.From == arbiter && ruling(y.Case, y.Round, y.Finding) == r
			}) {
				n++
			}
		}
		if isMost(c, n) && !slices.Contains(rulings, r) {
			rulings = append(rulings, r)
		}
	}
	slices.SortFunc(rulings, func(a, b api.Ruling) int {
		return slices.Compare([]int{a.Case, a.Round, a.Finding}, []int{b.Case, b.Round, b.Finding})
	})
	return rulings
}

// canByWords is what can still be ruled, arbiter by arbiter.
func canByWords(c api.Court, l []api.Letter, id, round int) (finding int, one, any bool) {
	proposed := inRound(among(l, id, api.LePropose), round)
	n := 0
	for arbiter := range c.Arbiters {
		votes := inRound(votesBy(l, arbiter, id), round)
		isFor := len(proposed) > 0 && slices.ContainsFunc(votes, func(x api.Letter) bool { return x.Finding == proposed[0].Finding })
		if isFor || openByWords(l, arbiter, id, round) {
			n++
		}
	}
	if len(proposed) == 0 {
		return 0, false, isMost(c, n)
	}
	if !isMost(c, n) {
		return 0, false, false
	}
	return proposed[0].Finding, true, false
}

// good fails unless a call had no error.
func good(t *testing.T, e api.Errno, about ...any) {
	t.Helper()
	if e != api.OK {
		t.Fatal("error", e, about)
	}
}

func equal[T comparable](t *testing.T, got, want T, about ...any) {
	t.Helper()
	if got != want {
		t.Fatal("got", got, "want", want, about)
	}
}

func sameList[T comparable](t *testing.T, got, want []T, about ...any) {
	t.Helper()
	if !slices.Equal(got, want) {
		t.Fatal("got", got, "want", want, about)
	}
}

// enough fails unless each of some things was met so often: what is rolled would say too little otherwise.
func enough[T comparable](t *testing.T, met map[T]int, times int, things ...T) {
	t.Helper()
	for _, x := range things {
		if met[x] < times {
			t.Fatal("met", met[x], "times:", x)
		}
	}
}

// lawfulIs fails unless Lawful returns an index, -1 if all are lawful.
func lawfulIs(t *testing.T, c api.Court, l []api.Letter, want int, about ...any) {
	t.Helper()
	at, is, e := arbiter.Lawful(c, l)
	good(t, e, l, about)
	equal(t, at, want, l, about)
	equal(t, is, want == -1, l, about)
}

func rulingsOf(t *testing.T, c api.Court, l []api.Letter) []api.Ruling {
	t.Helper()
	rulings, e := arbiter.Rulings(c, l)
	good(t, e, l)
	return rulings
}

func proofOf(t *testing.T, c api.Court, l []api.Letter, id int) []api.Letter {
	t.Helper()
	votes, e := arbiter.Proof(c, l, id)
	good(t, e, l, id)
	return votes
}

// canIs fails unless Can returns these.
func canIs(t *testing.T, c api.Court, l []api.Letter, id, round, finding int, one, any bool) {
	t.Helper()
	f, o, a, e := arbiter.Can(c, l, id, round)
	good(t, e, l, id, round)
	equal(t, f, finding, l, id, round)
	equal(t, o, one, l, id, round)
	equal(t, a, any, l, id, round)
}

// votedIs fails unless Voted returns these.
func votedIs(t *testing.T, c api.Court, l []api.Letter, who, id, round, finding int) {
	t.Helper()
	r, f, e := arbiter.Voted(c, l, who, id)
	good(t, e, l, who, id)
	equal(t, r, round, l, who, id)
	equal(t, f, finding, l, who, id)
}
