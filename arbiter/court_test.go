package arbiter_test

import (
	"testing"

	"kentledge/api"
	"kentledge/arbiter"
)

func wrongCourts() []api.Court {
	return []api.Court{court(0), court(1), court(2), court(8), court(9), court(-3), court(minInt), court(maxInt), court(3 << 32), court(-1 << 32)}
}

// P9.1: a court has from 3 to 7 arbiters.
func TestCheck(t *testing.T) {
	for n := 3; n <= 7; n++ {
		equal(t, arbiter.Check(court(n)), api.OK, n)
	}
	for _, c := range wrongCourts() {
		equal(t, arbiter.Check(c), api.ErrArg, c)
	}
}

// P9.1: a majority is more than half, and one less is not.
func TestMajority(t *testing.T) {
	for n, want := range []int{0, 0, 0, 2, 3, 3, 4, 4, 0} {
		equal(t, arbiter.Majority(court(n)), want, n)
	}
	for _, c := range wrongCourts() {
		equal(t, arbiter.Majority(c), 0, c)
	}
}

// P9.1: arbiters are the chairs one behind the other; there is none where there is no court, or no round.
func TestChair(t *testing.T) {
	for n := 3; n <= 7; n++ {
		want := 0
		for round := 1; round <= 5000; round++ {
			equal(t, arbiter.Chair(court(n), round), want, n, round)
			if want++; want == n {
				want = 0
			}
		}
		equal(t, arbiter.Chair(court(n), 1<<20), (1<<20-1)%n, n)
		for _, round := range []int{0, -1, -2, -3, 1<<20 + 1, 1<<20 + 2, 1<<20 + 3, minInt, maxInt} {
			equal(t, arbiter.Chair(court(n), round), 0, n, round)
		}
	}
	for _, c := range wrongCourts() {
		for _, round := range []int{0, 1, 2, 5, 1 << 20} {
			equal(t, arbiter.Chair(c, round), 0, c, round)
		}
	}
	equal(t, arbiter.Chair(three, 1), 0)
	equal(t, arbiter.Chair(three, 5), 1)
}

// nextIs fails unless Next returns a round, or 0 with an error.
func nextIs(t *testing.T, c api.Court, who, round, want int, wrong api.Errno) {
	t.Helper()
	n, e := arbiter.Next(c, who, round)
	equal(t, e, wrong, c, who, round)
	equal(t, n, want, c, who, round)
}

// P9.1: Next goes on round by round until the chair is the arbiter.
func TestNext(t *testing.T) {
	for n := 3; n <= 7; n++ {
		for who := range n {
			for _, from := range []int{0, 1000, 1<<20 - 40} {
				for round := from; round <= from+40; round++ {
					want := round + 1
					for want <= 1<<20 && arbiter.Chair(court(n), want) != who {
						want++
					}
					if want > 1<<20 {
						nextIs(t, court(n), who, round, 0, api.ErrLimit)
					} else {
						nextIs(t, court(n), who, round, want, api.OK)
					}
				}
			}
		}
	}
	nextIs(t, three, 1, 0, 2, api.OK)
	nextIs(t, three, 1, 2, 5, api.OK)
	nextIs(t, three, 0, 0, 1, api.OK)
	nextIs(t, three, 0, 1<<20-1, 1<<20, api.OK)
	nextIs(t, three, 1, 1<<20-1, 0, api.ErrLimit)
	nextIs(t, three, 2, 1<<20-1, 0, api.ErrLimit)
}

// P9.1: what is no arbiter and no round is ErrArg, ahead of ErrLimit.
func TestErrorsOfNext(t *testing.T) {
	for _, c := range wrongCourts() {
		nextIs(t, c, 0, 0, 0, api.ErrArg)
		nextIs(t, c, 0, 1<<20, 0, api.ErrArg)
		nextIs(t, c, -1, -1, 0, api.ErrArg)
	}
	for n := 3; n <= 7; n++ {
		for _, who := range []int{-1, n, n + 1, minInt, maxInt} {
			for _, round := range []int{0, 5, 1 << 20, -1, 1<<20 + 1} {
				nextIs(t, court(n), who, round, 0, api.ErrArg)
			}
		}
		for _, round := range []int{-1, -2, 1<<20 + 1, minInt, maxInt} {
			nextIs(t, court(n), 0, round, 0, api.ErrArg)
		}
		for who := range n {
			nextIs(t, court(n), who, 1<<20, 0, api.ErrLimit)
		}
	}
}

// formedByWords tells whether a letter is formed for a court that is one.
func formedByWords(c api.Court, x api.Letter) bool {
	isIn := func(n, lo, hi int) bool { return n >= lo && n <= hi }
	all := isIn(x.Case, 1, 1<<40) && isIn(x.Round, 1, 1<<20) && isIn(x.From, 0, c.Arbiters-1) && isIn(x.To, 0, c.Arbiters-1) && isIn(x.ID, 0, 1<<40)
	if !all {
		return false
	}
	chair := chairOf(c, x.Round)
	isFinding := isIn(x.Finding, 0, 1<<16)
	switch x.Kind {
	case 1:
		return x.From == chair && x.Voted == 0 && x.Finding == 0
	case 2:
		return x.To == chair && isIn(x.Voted, 0, x.Round-1) && isFinding && (x.Finding == 0 || x.Voted != 0)
	case 3:
		return x.From == chair && x.Voted == 0 && isFinding
	case 4:
		return x.Voted == 0 && isFinding
	}
	return false
}

// P9.1: letters are formed by their kinds, in all fields and at all bounds.
func TestFormed(t *testing.T) {
	met := map[bool]int{}
	of := map[int]int{}
	for n := 3; n <= 7; n++ {
		c := court(n)
		for kind := -1; kind <= 6; kind++ {
			for round := -1; round <= 9; round++ {
				for from := -1; from <= n; from++ {
					for to := -1; to <= n; to++ {
						for voted := -1; voted <= 9; voted++ {
							for _, finding := range []int{-1, 0, 1, 1 << 16, 1<<16 + 1} {
								x := api.Letter{Case: 4, Kind: kind, Round: round, From: from, To: to, Voted: voted, Finding: finding}
								want := formedByWords(c, x)
								equal(t, arbiter.Formed(c, x), want, c, x)
								met[want]++
								if want {
									of[kind]++
								}
							}
						}
					}
				}
			}
		}
	}
	enough(t, met, 1000, true, false)
	enough(t, of, 100, 1, 2, 3, 4)
	equal(t, len(of), 4)
}

// spoiled is a letter with a number in one of its fields.
func spoiled(x api.Letter, field, n int) api.Letter {
	*[]*int{&x.ID, &x.Case, &x.Kind, &x.Round, &x.From, &x.To, &x.Voted, &x.Finding}[field] = n
	return x
}

const letterFields = 8

// P9.1: the bounds of each field, and numbers far from them.
func TestFormedAtBounds(t *testing.T) {
	numbers := []int{minInt, -1 << 40, -1 << 16, -1, 0, 1, 2, 3, 4, 5, 6, 7, 8, 1<<16 - 1, 1 << 16, 1<<16 + 1, 1<<20 - 1, 1 << 20, 1<<20 + 1, 1<<40 - 1, 1 << 40, 1<<40 + 1, 1<<32 + 1, maxInt}
	met := map[bool]int{}
	for n := 3; n <= 7; n++ {
		c := court(n)
		letters := []api.Letter{
			prepare(c, 4, 5), promise(c, 4, 5, 1, 3, 7), promise(c, 4, 5, 1, 0, 0), propose(c, 4, 5, 7), vote(4, 5, 2, 7),
			prepare(c, 1<<40, 1<<20), promise(c, 1<<40, 1<<20, n-1, 1<<20-1, 1<<16), propose(c, 1<<40, 1<<20, 1<<16), vote(1<<40, 1<<20, n-1, 1<<16),
			prepare(c, 1, 1), promise(c, 1, 1, 0, 0, 0), propose(c, 1, 1, 0), vote(1, 1, 0, 0),
		}
		for _, x := range letters {
			equal(t, arbiter.Formed(c, x), true, c, x)
			for field := range letterFields {
				for _, k := range numbers {
					y := spoiled(x, field, k)
					equal(t, arbiter.Formed(c, y), formedByWords(c, y), c, y)
					met[formedByWords(c, y)]++
				}
			}
			for _, wrong := range wrongCourts() {
				equal(t, arbiter.Formed(wrong, x), false, wrong, x)
			}
		}
	}
	enough(t, met, 100, true, false)
	equal(t, arbiter.Formed(three, api.Letter{}), false)
}

// P9.1: letters say the same if all fields but ID and To are equal, formed or not.
func TestAlike(t *testing.T) {
	letters := append(example(), api.Letter{}, api.Letter{ID: -1, Case: minInt, Kind: 9, Round: maxInt, From: -5, To: 99, Voted: 3, Finding: 4})
	for _, x := range letters {
		for _, y := range letters {
			equal(t, arbiter.Alike(x, y), x == y, x, y)
		}
		for field := range letterFields {
			for _, n := range []int{-1, 0, 1, 2, 5, 1 << 40, minInt, maxInt} {
				y := spoiled(x, field, n)
				want := y == x || field == 0 || field == 5
				equal(t, arbiter.Alike(x, y), want, x, y)
				equal(t, arbiter.Alike(y, x), want, x, y)
				equal(t, arbiter.Alike(spoiled(spoiled(x, 0, 77), 5, 88), y), want, x, y)
			}
		}
	}
}
