package arbiter_test

import (
	"slices"
	"testing"

	"kentledge/api"
)

// P9.3: the chapter's examples.
func TestLawfulExamples(t *testing.T) {
	lawfulIs(t, three, nil, -1)
	lawfulIs(t, three, []api.Letter{}, -1)
	for n := range len(example()) + 1 {
		lawfulIs(t, three, example()[:n], -1)
	}
	lawfulIs(t, three, second(), -1)
	lawfulIs(t, three, append(second(), propose(three, 4, 2, 8)), 9)
	lawfulIs(t, three, append(second(), propose(three, 4, 2, 7)), -1)
	lawfulIs(t, three, append(second(), propose(three, 4, 2, 7), propose(three, 4, 2, 8)), 10)
	lawfulIs(t, three, append(second(), propose(three, 4, 2, 8), propose(three, 4, 2, 7)), 9)
}

// next is a letter that comes behind others, and whether it is lawful there.
type next struct {
	name   string
	ahead  []api.Letter
	letter api.Letter
	lawful bool
}

func lawfulNext(t *testing.T, c api.Court, all []next) {
	t.Helper()
	for _, x := range all {
		lawfulIs(t, c, x.ahead, -1, x.name)
		want := len(x.ahead)
		if x.lawful {
			want = -1
		}
		l := append(slices.Clone(x.ahead), x.letter)
		lawfulIs(t, c, l, want, x.name)
		lawfulIs(t, c, append(l, prepare(c, 4, 1), prepare(c, 4, 2)), want, x.name)
		other := append(slices.Clone(l), vote(5, 1, 0, 7)) // unlawful as well
		if x.lawful {
			want = len(l)
		}
		lawfulIs(t, c, other, want, x.name)
	}
}

// P9.3: a LePrepare is always lawful.
func TestLawfulPrepare(t *testing.T) {
	var all []next
	for round := 1; round <= 9; round++ {
		all = append(all,
			next{"first", nil, prepare(three, 4, round), true},
			next{"behind others", second(), prepare(three, 4, round), true},
			next{"of another case", second(), prepare(three, 5, round), true})
	}
	lawfulNext(t, three, append(all, next{"the last round", second(), prepare(three, 4, 1<<20), true}))
}

// P9.3: a LePromise needs its LePrepare, no words of its round or a greater one, and tells the last vote.
func TestLawfulPromise(t *testing.T) {
	one := []api.Letter{prepare(three, 4, 1)}
	both := append(example(), prepare(three, 4, 2))
	late := append(second(), prepare(three, 4, 3), prepare(three, 4, 4))
	lawfulNext(t, three, []next{
		{"without LePrepare", nil, promise(three, 4, 1, 0, 0, 0), false},
		{"with it", one, promise(three, 4, 1, 0, 0, 0), true},
		{"of another round", one, promise(three, 4, 4, 0, 0, 0), false},
		{"of another case", one, promise(three, 5, 1, 0, 0, 0), false},
		{"of several", append(one, prepare(three, 4, 4)), promise(three, 4, 4, 2, 0, 0), true},
		{"behind a greater one", append(one, prepare(three, 4, 4), promise(three, 4, 4, 2, 0, 0)), promise(three, 4, 1, 2, 0, 0), false},
		{"behind one of another case", append(one, prepare(three, 5, 4), promise(three, 5, 4, 2, 0, 0)), promise(three, 4, 1, 2, 0, 0), true},
		{"behind one of another arbiter", append(one, prepare(three, 4, 4), promise(three, 4, 4, 1, 0, 0)), promise(three, 4, 1, 2, 0, 0), true},
		{"behind a lesser one", late, promise(three, 4, 4, 1, 1, 7), true},
		{"which it leaves out", late, promise(three, 4, 4, 1, 0, 0), false},
		{"said again", late, promise(three, 4, 2, 1, 1, 7), true},
		{"said in another way", late, promise(three, 4, 2, 2, 1, 7), false},
		{"without votes", both, promise(three, 4, 2, 2, 0, 0), true},
		{"with a vote that it does not tell", both, promise(three, 4, 2, 1, 0, 0), false},
		{"with a vote that it tells wrong", both, promise(three, 4, 2, 1, 1, 8), false},
		{"with another one's vote", both, promise(three, 4, 2, 2, 1, 7), false},
		{"of the round of its vote", example(), promise(three, 4, 1, 1, 0, 0), true}, // it says the same as one ahead
		{"behind a vote of its round", append(example(), vote(4, 1, 2, 7)), promise(three, 4, 1, 2, 0, 0), false},
	})
}

// P9.3: of several votes a LePromise tells the one with the greatest round.
func TestLawfulPromiseOfSeveralVotes(t *testing.T) {
	l := append(second(), propose(three, 4, 2, 7), vote(4, 2, 1, 7), prepare(three, 4, 3))
	lawfulNext(t, three, []next{
		{"the last one", l, promise(three, 4, 3, 1, 2, 7), true},
		{"an earlier one", l, promise(three, 4, 3, 1, 1, 7), false},
		{"none", l, promise(three, 4, 3, 1, 0, 0), false},
		{"that of another arbiter", l, promise(three, 4, 3, 0, 2, 7), false},
		{"its only one", l, promise(three, 4, 3, 0, 1, 7), true},
	})
}

// P9.3: a LePropose is the only one of its round, behind promises of a majority.
func TestLawfulPropose(t *testing.T) {
	one := []api.Letter{prepare(three, 4, 1), prepare(three, 5, 1), prepare(three, 4, 4), promise(three, 4, 1, 0, 0, 0)}
	lawfulNext(t, three, []next{
		{"first", nil, propose(three, 4, 1, 7), false},
		{"behind one promise", one, propose(three, 4, 1, 7), false},
		{"twice", append(one, again(three, one[3], 9, 0)), propose(three, 4, 1, 7), false},
		{"behind one of another case", append(one, promise(three, 5, 1, 1, 0, 0)), propose(three, 4, 1, 7), false},
		{"behind one of another round", append(one, promise(three, 4, 4, 1, 0, 0)), propose(three, 4, 1, 7), false},
		{"behind two", append(one, promise(three, 4, 1, 1, 0, 0)), propose(three, 4, 1, 7), true},
		{"the least", append(one, promise(three, 4, 1, 1, 0, 0)), propose(three, 4, 1, 0), true},
		{"the greatest", append(one, promise(three, 4, 1, 1, 0, 0)), propose(three, 4, 1, 1<<16), true},
		{"another one", example(), propose(three, 4, 1, 8), false},
		{"the same again", example(), again(three, propose(three, 4, 1, 7), 9, 2), true},
		{"of another case", example(), propose(three, 5, 1, 7), false},
	})
}

// told is a lawful list that ends with promises of the round 6, of arbiters that voted last in these rounds (0: never); all votes of a round k are for 10 + k.
func told(c api.Court, rounds []int) []api.Letter {
	var l []api.Letter
	for round := 1; round < 6; round++ {
		if !slices.Contains(rounds, round) {
			continue
		}
		l = append(l, prepare(c, 4, round))
		for from := range c.Arbiters {
			if from >= len(rounds) || rounds[from] == 0 || rounds[from] >= round {
				l = append(l, promise(c, 4, round, from, 0, 0))
			}
		}
		l = append(l, propose(c, 4, round, 10+round))
		for from, voted := range rounds {
			if voted == round {
				l = append(l, vote(4, round, from, 10+round))
			}
		}
	}
	l = append(l, prepare(c, 4, 6))
	for from, voted := range rounds {
		x := promise(c, 4, 6, from, voted, 0)
		if voted > 0 {
			x.Finding = 10 + voted
		}
		l = append(l, x)
	}
	return l
}

// P9.3: what can be proposed behind promises that tell votes: of each k at most a majority has a Voted of at most k.
func TestLawfulProposeBehindVotes(t *testing.T) {
	for _, x := range []struct {
		n      int
		rounds []int
		can    []int // findings; 99 is any other one
	}{
		{5, []int{0, 0, 0}, []int{11, 12, 13, 99}},
		{5, []int{0, 0}, nil},
		{5, []int{1, 0, 0}, []int{11}},
		{5, []int{1, 0}, nil},
		{5, []int{1, 1, 0}, []int{11}},
		{5, []int{0, 0, 0, 1}, []int{11, 12, 13, 99}},
		{5, []int{2, 0, 0, 0}, []int{11, 12, 13, 99}},
		{5, []int{1, 0, 0, 2}, []int{11, 12}},
		{5, []int{1, 2, 0}, []int{12}},
		{5, []int{2, 1, 0}, []int{12}},
		{5, []int{1, 2, 0, 0}, []int{11, 12}},
		{5, []int{1, 2, 0, 0, 0}, []int{11, 12, 13, 99}},
		{7, []int{1, 2, 0, 0}, []int{12}},
		{7, []int{1, 2, 0, 0, 0}, []int{11, 12}},
		{7, []int{3, 2, 1, 0, 0}, []int{12, 13}},
		{7, []int{3, 2, 1, 0, 0, 0}, []int{11, 12, 13}},
		{4, []int{1, 0}, nil},
		{4, []int{1, 0, 0}, []int{11}},
		{4, []int{1, 2, 0}, []int{12}},
		{4, []int{1, 0, 0, 0}, []int{11, 12, 13, 99}},
		{3, []int{1, 0}, []int{11}},
		{3, []int{1, 0, 0}, []int{11, 12, 13, 99}},
		{3, []int{1}, nil},
	} {
		c := court(x.n)
		l := told(c, x.rounds)
		for _, finding := range []int{11, 12, 13, 99} {
			want := -1
			if !slices.Contains(x.can, finding) {
				want = len(l)
			}
			lawfulIs(t, c, append(l, propose(c, 4, 6, finding)), want, x, finding)
		}
	}
}

// P9.3: a LeVote needs the LePropose of its round with its finding, and an arbiter that is open in it.
func TestLawfulVote(t *testing.T) {
	l := second()
	lawfulNext(t, three, []next{
		{"first", nil, vote(4, 1, 0, 7), false},
		{"without LePropose", example()[:3], vote(4, 1, 0, 7), false},
		{"with it", example()[:4], vote(4, 1, 0, 7), true},
		{"without a promise", example()[:4], vote(4, 1, 2, 7), true},
		{"of another finding", example()[:4], vote(4, 1, 0, 8), false},
		{"of another round", example()[:4], vote(4, 2, 0, 7), false},
		{"of another case", example()[:4], vote(5, 1, 0, 7), false},
		{"said again", example(), again(three, vote(4, 1, 1, 7), 9, 2), true},
		{"of another finding behind one", example(), vote(4, 1, 1, 8), false},
		{"behind a greater word", l, vote(4, 1, 2, 7), false},
		{"said again behind a greater word", l, again(three, vote(4, 1, 1, 7), 9, 2), true},
		{"behind a greater word of others", l[:8], vote(4, 1, 2, 7), true},
		{"behind a greater word of another case", append(example(), prepare(three, 5, 2), promise(three, 5, 2, 2, 0, 0)), vote(4, 1, 2, 7), true},
		{"behind a lesser vote", append(l, propose(three, 4, 2, 7)), vote(4, 2, 1, 7), true},
		{"without a promise behind a lesser vote", append(l, propose(three, 4, 2, 7)), vote(4, 2, 0, 7), true},
		{"behind a greater vote", append(l, propose(three, 4, 2, 7), vote(4, 2, 2, 7)), vote(4, 1, 2, 7), false},
	})
}

// P9.3: it is the first letter that counts, wherever others are wrong, in other cases too.
func TestFirstUnlawful(t *testing.T) {
	l := append(example(), vote(5, 1, 0, 7), vote(6, 1, 0, 7), vote(4, 9, 0, 7))
	lawfulIs(t, three, l, 6)
	lawfulIs(t, three, slices.Insert(l, 2, propose(three, 4, 1, 7)), 2)
	lawfulIs(t, three, slices.Insert(slices.Clone(l), 0, promise(three, 4, 1, 0, 0, 0)), 0)
	lawfulIs(t, three, []api.Letter{vote(5, 1, 0, 7), vote(5, 1, 0, 7)}, 0)
	lawfulIs(t, three, []api.Letter{prepare(three, 5, 1), vote(5, 1, 0, 7), vote(5, 1, 0, 7)}, 1)
	both := append(example(), example()...)
	for i := range example() {
		both[i].Case, both[i].ID, both[i+6].ID = 5, 9, 8
	}
	lawfulIs(t, three, both, -1)
}

// P9.3: lists that are rolled, letter by letter by the words of the chapter.
func TestLawfulAtRandom(t *testing.T) {
	met := map[bool]int{}
	kinds := map[int]int{}
	forAny(3000, 60, func(_ *dice, m matter, l []api.Letter) {
		want := firstUnlawfulByWords(m.court, l)
		lawfulIs(t, m.court, l, want)
		met[want < 0]++
		if want >= 0 {
			kinds[l[want].Kind]++
		}
	})
	enough(t, met, 500, true, false)
	enough(t, kinds, 300, api.LePromise, api.LePropose, api.LeVote)
	equal(t, kinds[api.LePrepare], 0)
}

// P9.3: each letter that there is behind lawful lists.
func TestLawfulEachLetter(t *testing.T) {
	met := map[bool]int{}
	forLawful(60, 40, func(d *dice, m matter, l []api.Letter) {
		m.rounds, m.findings = min(m.rounds, 4), min(m.findings, 1)
		for _, x := range letters(m) {
			want := len(l)
			is := lawfulByWords(m.court, l, x)
			if is {
				want = -1
			}
			lawfulIs(t, m.court, append(l, x), want)
			met[is]++
		}
	})
	enough(t, met, 1000, true, false)
}

// letters lists all letters of the rounds and findings in question, each once.
func letters(m matter) []api.Letter {
	var l []api.Letter
	for _, id := range m.ids {
		for round := 1; round <= m.rounds; round++ {
			l = append(l, prepare(m.court, id, round))
			for from := range m.court.Arbiters {
				l = append(l, promise(m.court, id, round, from, 0, 0))
			}
			for finding := 0; finding <= m.findings; finding++ {
				l = append(l, propose(m.court, id, round, finding))
				for from := range m.court.Arbiters {
					l = append(l, vote(id, round, from, finding))
					for voted := 1; voted < round; voted++ {
						l = append(l, promise(m.court, id, round, from, voted, finding))
					}
				}
			}
		}
	}
	return l
}
