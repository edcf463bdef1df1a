package ledger_test

import (
	"maps"
	"math/big"
	"slices"
	"testing"

	"kentledge/api"
	"kentledge/ledger"
)

// chainByWords is the chain behind a posting, with numbers of any size.
func chainByWords(before int, p api.Posting) int {
	sum := new(big.Int).Mul(big.NewInt(31), big.NewInt(int64(before)))
	for _, x := range [][2]int{{1, p.Item}, {3, p.Day}, {5, p.Account}, {7, p.Amount}} {
		sum.Add(sum, new(big.Int).Mul(big.NewInt(int64(x[0])), big.NewInt(int64(x[1]))))
	}
	return int(sum.Mod(sum, big.NewInt(1<<31-1)).Int64()) // Mod is never negative
}

// chainIs fails unless there is a chain behind a posting, and this is it.
func chainIs(t *testing.T, before int, p api.Posting, want int) {
	t.Helper()
	n, e := ledger.Chain(before, p)
	good(t, e, before, p)
	equal(t, n, want, before, p)
}

// noChain fails unless a chain behind a posting is refused.
func noChain(t *testing.T, before int, p api.Posting) {
	t.Helper()
	n, e := ledger.Chain(before, p)
	equal(t, e, api.ErrArg, before, p)
	equal(t, n, 0, before, p)
}

// P8.8: the examples of the chapter, and remainders at their ends.
func TestChain(t *testing.T) {
	chainIs(t, 0, posting(1, 4, 20, 100), 813)
	chainIs(t, 813, posting(1, 4, 2, -100), 24526)
	chainIs(t, 0, posting(1, 0, 1, 0), 6)
	chainIs(t, 0, posting(1, 0, 1, -1), 1<<31-2)
	chainIs(t, 0, posting(2, 0, 1, -1), 0)
	chainIs(t, 0, posting(3, 0, 1, -1), 1)
	chainIs(t, 0, posting(1<<31-1-5, 0, 1, 0), 0)
	chainIs(t, 0, posting(1<<31-2-5, 0, 1, 0), 1<<31-2)
	chainIs(t, 0, posting(9, 728, 4, 0), 9+3*728+20)
	for _, before := range []int{0, 1, 1 << 20, 1<<31 - 3, 1<<31 - 2} {
		for _, item := range []int{1, 2, 1 << 31, 1<<40 - 1, 1 << 40} {
			for _, account := range []int{1, 2, 3, 4, 9, 10, 1 << 40} {
				for _, amount := range []int{-1 << 24, 1 - 1<<24, -1, 0, 1, 1<<24 - 1, 1 << 24} {
					for _, day := range []int{0, 1, 728} {
						p := posting(item, day, account, amount)
						chainIs(t, before, p, chainByWords(before, p))
					}
				}
			}
		}
	}
}

// P8.8: no chain behind numbers outside of their ranges.
func TestNoChain(t *testing.T) {
	fine := posting(5, 6, 7, 8)
	for _, n := range []int{-1, 1<<31 - 1, 1 << 31, minInt, maxInt} {
		noChain(t, n, fine)
	}
	for _, n := range []int{0, -1, 1<<40 + 1, minInt, maxInt} {
		noChain(t, 1, posting(n, 6, 7, 8))
		noChain(t, 1, posting(5, 6, n, 8))
	}
	for _, n := range []int{-1, 729, minInt, maxInt} {
		noChain(t, 1, posting(5, n, 7, 8))
	}
	for _, n := range []int{-1<<24 - 1, 1<<24 + 1, minInt, maxInt} {
		noChain(t, 1, posting(5, 6, 7, n))
	}
	noChain(t, 0, api.Posting{})
}

// leavesByWords puts postings on leaves one by one.
func leavesByWords(l []api.Posting) []api.Leaf {
	var leaves []api.Leaf
	chain := 0
	for i, p := range l {
		if i%8 == 0 {
			leaves = append(leaves, api.Leaf{Number: 1 + i/8, Before: chain})
		}
		chain = chainByWords(chain, p)
		at := &leaves[len(leaves)-1]
		at.Lines = append(at.Lines, p)
		at.After = chain
	}
	return leaves
}

// P8.9: the examples of the chapter, as they come.
func TestLeavesOfExamples(t *testing.T) {
	equal(t, len(leavesOf(t, example(), 4)), 0)
	equal(t, len(leavesOf(t, nil, last)), 0)
	equal(t, len(leavesOf(t, []api.Item{closing(1, 1, 1)}, last)), 0)
	one := leavesOf(t, example(), 5)
	sameLeaves(t, one, []api.Leaf{{Number: 1, After: 24526, Lines: examplePostings()[:2]}})
	sameLeaves(t, leavesOf(t, example(), 9), leavesByWords(examplePostings()))
	equal(t, len(leavesOf(t, example(), 9)), 1)
	more := append(example(), pay(7, 10, 10, 21, 1))
	two := leavesOf(t, more, last)
	equal(t, len(two), 2)
	equal(t, len(two[1].Lines), 2)
	sameLeaves(t, two, leavesByWords(postingsOf(t, more, last)))
	equal(t, len(leavesOf(t, more, 9)), 1)
}

// P8.9: of any number of postings, up to the most that can be.
func TestLeavesOfMany(t *testing.T) {
	l := sortedOf(t, full())
	for n := range len(l) + 1 {
		leaves := leavesOf(t, l[:n], last)
		sameLeaves(t, leaves, leavesByWords(postingsOf(t, l[:n], last)), n)
		equal(t, len(leaves), (2*n+7)/8, n)
		leavesAre(t, leaves, api.OK, -1)
	}
	forItems(800, 60, func(d *dice, l []api.Item, known int) {
		leaves := leavesOf(t, l, known)
		sameLeaves(t, leaves, leavesByWords(byWords(l, known).postings), l, known)
		leavesAre(t, leaves, api.OK, -1)
		sameList(t, fine[[]api.Posting](t)(ledger.Read(leaves)), byWords(l, known).postings, l, known)
	})
}

// leavesAre fails unless leaves have an error at an index, and Read the same error, or all lines.
func leavesAre(t *testing.T, l []api.Leaf, want api.Errno, at int, about ...any) {
	t.Helper()
	e, i := ledger.CheckLeaves(l)
	equal(t, e, want, l, about)
	equal(t, i, at, l, about)
	lines, e := ledger.Read(l)
	equal(t, e, want, l, about)
	var all []api.Posting
	for _, leaf := range l {
		all = append(all, leaf.Lines...)
	}
	if want != api.OK {
		all = nil
	}
	sameList(t, lines, all, about)
}

// paper is leaves with as many postings as are asked for, not of a ledger.
func paper(n int) []api.Leaf {
	var l []api.Posting
	for i := range n {
		l = append(l, posting(i+1, i%729, 1+i%5, 7-i))
	}
	return leavesByWords(l)
}

func copied(l []api.Leaf) []api.Leaf {
	l = slices.Clone(l)
	for i := range l {
		l[i].Lines = slices.Clone(l[i].Lines)
	}
	return l
}

// P8.9: at most 120 leaves, whatever they are.
func TestTooManyLeaves(t *testing.T) {
	leavesAre(t, paper(960), api.OK, -1)
	leavesAre(t, paper(953), api.OK, -1)
	equal(t, len(paper(953)), 120)
	leavesAre(t, paper(961), api.ErrLimit, -1)
	leavesAre(t, paper(2000), api.ErrLimit, -1)
	leavesAre(t, make([]api.Leaf, 121), api.ErrLimit, -1)
	leavesAre(t, make([]api.Leaf, 120), api.ErrProof, 0)
	leavesAre(t, nil, api.OK, -1)
	leavesAre(t, []api.Leaf{}, api.OK, -1)
	leavesAre(t, append(paper(960)[:119], paper(961)[120]), api.ErrProof, 119)
}

// P8.9: each leaf can be wrong in each way; the first one that is so is told.
func TestWrongLeaves(t *testing.T) {
	for _, n := range []int{1, 7, 8, 9, 16, 17, 24, 30} {
		whole := paper(n)
		leavesAre(t, whole, api.OK, -1)
		for i := range whole {
			for about, change := range changes() {
				l := copied(whole)
				if !change(l, i) {
					continue
				}
				leavesAre(t, l, api.ErrProof, i, about, n)
				if i+1 < len(l) { // a later one that is wrong, too, changes nothing
					l[len(l)-1].Number = 0
					leavesAre(t, l, api.ErrProof, i, about, n)
					l[len(l)-1].Lines = nil
					leavesAre(t, l, api.ErrProof, i, about, n)
				}
			}
		}
	}
}

// chained gives leaves from an index on the chain that they should have, as far as there is one.
func chained(l []api.Leaf, from int) {
	for i := from; i < len(l); i++ {
		l[i].Before = 0
		if i > 0 {
			l[i].Before = l[i-1].After
		}
		l[i].After = l[i].Before
		for _, p := range l[i].Lines {
			l[i].After = chainByWords(l[i].After, p)
		}
	}
}

// change makes a leaf wrong, and tells whether it can be made so. Where it is not the chain that is to be wrong, that is made right.
type change func(l []api.Leaf, i int) bool

// changes are all of them.
func changes() map[string]change {
	all := map[string]change{}
	for _, some := range []map[string]change{numberChanges(), chainChanges(), countChanges(), lineChanges()} {
		maps.Copy(all, some)
	}
	return all
}

func numberChanges() map[string]change {
	number := func(do func(n int) int) change {
		return func(l []api.Leaf, i int) bool {
			was := l[i].Number
			l[i].Number = do(was)
			return l[i].Number != was
		}
	}
	return map[string]change{
		"number more":   number(func(n int) int { return n + 1 }),
		"number less":   number(func(n int) int { return n - 1 }),
		"number always": number(func(n int) int { return 1 }),
		"number great":  number(func(n int) int { return n + 1<<32 }),
	}
}

func chainChanges() map[string]change {
	return map[string]change{
		"before": func(l []api.Leaf, i int) bool {
			l[i].Before++
			l[i].After = l[i].Before
			for _, p := range l[i].Lines {
				l[i].After = chainByWords(l[i].After, p)
			}
			return true
		},
		"before alone":       func(l []api.Leaf, i int) bool { l[i].Before++; return true },
		"before alone, less": func(l []api.Leaf, i int) bool { l[i].Before--; return true },
		"before as at first": func(l []api.Leaf, i int) bool { l[i].Before = 0; return i > 0 },
		"before by a round":  func(l []api.Leaf, i int) bool { l[i].Before += api.MaxChain; return true },
		"after":              func(l []api.Leaf, i int) bool { l[i].After++; return true },
		"after, less":        func(l []api.Leaf, i int) bool { l[i].After--; return true },
		"after by a round":   func(l []api.Leaf, i int) bool { l[i].After += api.MaxChain; return true },
	}
}

func countChanges() map[string]change {
	cut := func(n int) change {
		return func(l []api.Leaf, i int) bool {
			l[i].Lines = l[i].Lines[:min(n, len(l[i].Lines))]
			chained(l, i)
			return n == 0 || i < len(l)-1
		}
	}
	return map[string]change{
		"no lines":                  cut(0),
		"one line, not the last":    cut(1),
		"seven lines, not the last": cut(7),
		"nine lines": func(l []api.Leaf, i int) bool {
			for len(l[i].Lines) < 9 {
				l[i].Lines = append(l[i].Lines, posting(1, 1, 1, 1))
			}
			chained(l, i)
			return true
		},
	}
}

func lineChanges() map[string]change {
	line := func(do func(p *api.Posting)) change {
		return func(l []api.Leaf, i int) bool {
			do(&l[i].Lines[len(l[i].Lines)/2])
			chained(l, i)
			return true
		}
	}
	return map[string]change{
		"item none":     line(func(p *api.Posting) { p.Item = 0 }),
		"item great":    line(func(p *api.Posting) { p.Item = 1<<40 + 1 }),
		"day ahead":     line(func(p *api.Posting) { p.Day = -1 }),
		"day behind":    line(func(p *api.Posting) { p.Day = 729 }),
		"account none":  line(func(p *api.Posting) { p.Account = 0 }),
		"account great": line(func(p *api.Posting) { p.Account = 1<<40 + 1 }),
		"amount great":  line(func(p *api.Posting) { p.Amount = 1<<24 + 1 }),
		"amount low":    line(func(p *api.Posting) { p.Amount = -1<<24 - 1 }),
	}
}

// P8.9: behind a line for which Chain returns an error no chain is right, whatever it is taken for.
func TestNoChainBehindWrongLines(t *testing.T) {
	for _, bad := range []api.Posting{{}, posting(0, 1, 1, 1), posting(1, -1, 1, 1), posting(1, 729, 1, 1), posting(1, 1, 0, 1), posting(1, 1, 1, 1<<24+1), posting(1, 1, 1, -1<<24-1), posting(1<<40+1, 1, 1, 1), posting(1, 1, 1<<40+1, 1)} {
		for _, n := range []int{1, 5, 8, 16, 21} {
			for at := range n {
				l := paper(n)
				i, j := at/8, at%8
				l[i].Lines[j] = bad
				before := l[i].Before
				for _, p := range l[i].Lines[:j] {
					before = chainByWords(before, p)
				}
				for _, chain := range []int{0, before, chainByWords(before, bad)} { // none, as if it were not there, or by the numbers
					l[i].After = chain
					for _, p := range l[i].Lines[j+1:] {
						l[i].After = chainByWords(l[i].After, p)
					}
					chained(l, i+1)
					leavesAre(t, l, api.ErrProof, i, bad, at, chain)
				}
			}
		}
	}
}

// P8.9: leaves are right by their chain, and not by what stands on them.
func TestRightLeaves(t *testing.T) {
	l := paper(20)
	l[1].Lines[3] = posting(1<<40, 728, 4, -1<<24)
	l[2].Lines[3] = posting(1, 0, 1<<40, 1<<24)
	chained(l, 1)
	leavesAre(t, l, api.OK, -1)
	leavesAre(t, l[:1], api.OK, -1)
	leavesAre(t, l[:2], api.OK, -1)
	leavesAre(t, l[1:], api.ErrProof, 0)
	leavesAre(t, []api.Leaf{l[0], l[2]}, api.ErrProof, 1)
	leavesAre(t, []api.Leaf{l[0], l[0]}, api.ErrProof, 1)
	leavesAre(t, []api.Leaf{l[0], l[1], l[1]}, api.ErrProof, 2)
	leavesAre(t, []api.Leaf{l[1], l[0]}, api.ErrProof, 0)
	leavesAre(t, []api.Leaf{{Number: 1}}, api.ErrProof, 0)
	leavesAre(t, []api.Leaf{{Number: 1, Lines: []api.Posting{}}}, api.ErrProof, 0)
	for n := 1; n < 8; n++ { // the last one may have fewer lines
		short := copied(l[:1])
		short[0].Lines = short[0].Lines[:n]
		chained(short, 0)
		leavesAre(t, short, api.OK, -1)
		leavesAre(t, append(short, l[1]), api.ErrProof, 0)
	}
}

// P8.17: what Leaves returns is accepted; with another amount of one line it is not.
func TestOtherAmounts(t *testing.T) {
	for _, n := range []int{1, 8, 9, 30, 120} {
		whole := paper(n)
		for i := range whole {
			for j := range whole[i].Lines {
				for _, amount := range []int{-1 << 24, -1, 0, 1, 7, 1 << 24, whole[i].Lines[j].Amount + 1, -whole[i].Lines[j].Amount} {
					l := copied(whole)
					if l[i].Lines[j].Amount == amount {
						continue
					}
					l[i].Lines[j].Amount = amount
					leavesAre(t, l, api.ErrProof, i, j, amount)
				}
			}
		}
	}
	forItems(500, 40, func(d *dice, items []api.Item, known int) {
		l := leavesOf(t, items, known)
		if len(l) == 0 {
			return
		}
		i := d.between(0, len(l)-1)
		j := d.between(0, len(l[i].Lines)-1)
		by := d.between(1, 1<<20)
		l[i].Lines[j].Amount += by
		leavesAre(t, l, api.ErrProof, i, items, known)
		l[i].Lines[j].Amount -= by
		leavesAre(t, l, api.OK, -1)
	})
}
