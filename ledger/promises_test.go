package ledger_test

import (
	"slices"
	"testing"

	"kentledge/api"
	"kentledge/ledger"
)

// P8.10: the postings of each item are together 0, and so are all balances.
func TestBalanced(t *testing.T) {
	met := 0
	forItems(1000, 40, func(d *dice, l []api.Item, known int) {
		of := map[int]int{}
		for _, p := range postingsOf(t, l, known) {
			of[p.Item] += p.Amount
			met++
		}
		for id, sum := range of {
			equal(t, sum, 0, l, known, id)
		}
		for _, day := range []int{0, 5, d.known(l), last} {
			sum := 0
			for _, x := range balancesOf(t, l, day, known) {
				sum += x.Amount
			}
			equal(t, sum, 0, l, known, day)
		}
	})
	equal(t, met > 10000, true, met)
}

// all is what is told of items, but for errors.
type all struct {
	sorted, final []api.Item
	postings      []api.Posting
	refused       []int
	closed        int
	balances      []api.Balance
	owing, bonds  []api.Balance
	states        []api.Statement
	amounts       []int
	history       []api.Change
	moved         []int
	leaves        []api.Leaf
}

// told asks all that can be asked.
func told(t *testing.T, l []api.Item, days api.Span, known int) all {
	t.Helper()
	a := all{
		sorted: sortedOf(t, l), final: finalOf(t, l, known), postings: postingsOf(t, l, known),
		refused: refusedOf(t, l, known), closed: closedOf(t, l, known),
		balances: balancesOf(t, l, days.Hi, known), owing: owingOf(t, l, days.Hi, known), bonds: bondsOf(t, l, known),
		moved: movedOf(t, l, days.Lo, days.Hi), leaves: leavesOf(t, l, known),
	}
	for _, account := range someAccounts() {
		a.states = append(a.states, stateOf(t, l, account, days, known))
		a.amounts = append(a.amounts, holdOf(t, l, account, days.Lo, known))
	}
	for _, number := range []int{1, 2, 3, api.MaxID} {
		n, e := ledger.Amount(l, number, known)
		a.amounts = append(a.amounts, n, int(e))
		h, e := ledger.History(l, number)
		a.history = append(append(a.history, h...), api.Change{Known: -1, Amount: int(e)})
	}
	return a
}

func sameAll(t *testing.T, got, want all, about ...any) {
	t.Helper()
	sameList(t, got.sorted, want.sorted, about...)
	sameList(t, got.final, want.final, about...)
	sameList(t, got.postings, want.postings, about...)
	sameList(t, got.refused, want.refused, about...)
	equal(t, got.closed, want.closed, about...)
	sameList(t, got.balances, want.balances, about...)
	sameList(t, got.owing, want.owing, about...)
	sameList(t, got.bonds, want.bonds, about...)
	for i := range got.states {
		sameStatement(t, got.states[i], want.states[i], about...)
	}
	sameList(t, got.amounts, want.amounts, about...)
	sameList(t, got.history, want.history, about...)
	sameList(t, got.moved, want.moved, about...)
	sameLeaves(t, got.leaves, want.leaves, about...)
}

// P8.11: in whatever order items stand, and however often each one, all results are the same.
func TestInAnyOrder(t *testing.T) {
	forItems(400, 30, func(d *dice, l []api.Item, known int) {
		days := d.days(l)
		want := told(t, l, days, known)
		sameAll(t, told(t, shuffled(d, l), days, known), want, l, known)
		sameAll(t, told(t, append(slices.Clone(l), shuffled(d, l)...), days, known), want, l, known)
		sameAll(t, told(t, sortedOf(t, l), days, known), want, l, known)
		slices.Reverse(l)
		sameAll(t, told(t, l, days, known), want, l, known)
	})
}

// P8.11: Merge of a and b is Merge of b and a, also in the error if both are fine alone; Merge with itself is Sorted.
func TestMergeInAnyOrder(t *testing.T) {
	met := map[api.Errno]int{}
	forItems(2000, 40, func(d *dice, l []api.Item, _ int) {
		a, b := l[:d.between(0, len(l))], slices.Clone(l[d.between(0, len(l)):])
		if len(b) > 0 && d.one(3) {
			b[0].Known = d.between(0, 1)
		}
		if ledger.Check(b) != api.OK {
			return
		}
		ab, e := ledger.Merge(a, b)
		ba, f := ledger.Merge(b, a)
		equal(t, e, f, a, b)
		sameList(t, ab, ba, a, b)
		met[e]++
		if len(l) <= api.MaxItems/2 {
			sameList(t, fine[[]api.Item](t, l)(ledger.Merge(l, l)), sortedOf(t, l), l)
			sameList(t, fine[[]api.Item](t, l)(ledger.Merge(l, nil)), sortedOf(t, l), l)
		}
	})
	enough(t, met, 100, api.OK, api.ErrTwice)
	enough(t, met, 10, api.ErrLimit)
}

// P8.12: postings as known on a day are the first ones of those as known later, and nothing that comes in later changes them.
func TestAsKnown(t *testing.T) {
	more := 0
	forItems(1000, 40, func(d *dice, l []api.Item, known int) {
		early := postingsOf(t, l, known)
		for _, later := range []int{known, min(known+1, last), min(known+2, last), min(known+5, last), last} {
			late := postingsOf(t, l, later)
			equal(t, len(late) >= len(early), true, l, known, later)
			sameList(t, late[:len(early)], early, l, known, later)
			if len(late) > len(early) {
				more++
			}
		}
		days := d.days(l)
		some := slices.DeleteFunc(slices.Clone(l), func(x api.Item) bool { return x.Known > known })
		days.Hi = min(days.Hi, known)
		days.Lo = min(days.Lo, days.Hi)
		a, b := told(t, some, days, known), told(t, l, days, known)
		b.sorted, b.history = a.sorted, a.history // those are of all days
		sameAll(t, a, b, l, known)
	})
	equal(t, more > 500, true, more)
}

// P8.13: what an account holds behind a day that is closed stays as it is.
func TestClosedStays(t *testing.T) {
	met := 0
	forItems(700, 40, func(d *dice, l []api.Item, known int) {
		closed := closedOf(t, l, known)
		for _, later := range []int{min(known+1, last), min(known+3, last), last} {
			equal(t, closedOf(t, l, later) >= closed, true, l, known, later)
			if closed < 0 {
				continue
			}
			for _, day := range []int{closed, max(closed-1, 0), closed / 2, 0} {
				sameList(t, balancesOf(t, l, day, later), balancesOf(t, l, day, known), l, known, later, day)
				for _, account := range someAccounts() {
					equal(t, holdOf(t, l, account, day, later), holdOf(t, l, account, day, known), l, known, later, day)
				}
			}
			if len(postingsOf(t, l, later)) > len(postingsOf(t, l, known)) {
				met++
			}
		}
	})
	equal(t, met > 100, true, met)
}

// P8.14: the postings of a bill to its account are together its amount.
func TestPostingsOfBills(t *testing.T) {
	met := 0
	forItems(2000, 40, func(d *dice, l []api.Item, known int) {
		refused := refusedOf(t, l, known)
		postings := postingsOf(t, l, known)
		for _, x := range sortedOf(t, l) {
			if x.Kind != api.ItBill || x.Known > known || slices.Contains(refused, x.ID) {
				continue
			}
			sum := 0
			for _, y := range sortedOf(t, l) {
				if y.Bill != x.Bill {
					continue
				}
				for _, p := range postings {
					if p.Item == y.ID && p.Account == x.Account {
						sum += p.Amount
						met++
					}
				}
			}
			amountIs(t, l, x.Bill, known, sum)
		}
	})
	equal(t, met > 3000, true, met)
}

// P8.14: behind the last day each account holds as much as by Final, and Final of Final is the same.
func TestFinalHoldsTheSame(t *testing.T) {
	met := 0
	forItems(2000, 40, func(d *dice, l []api.Item, known int) {
		final := finalOf(t, l, known)
		for _, account := range someAccounts() {
			equal(t, holdOf(t, final, account, last, known), holdOf(t, l, account, last, known), l, known, account)
		}
		sameList(t, owingOf(t, final, last, known), owingOf(t, l, last, known), l, known)
		sameList(t, finalOf(t, final, known), final, l, known)
		equal(t, len(refusedOf(t, final, known)), 0, l, known)
		equal(t, closedOf(t, final, known), closedOf(t, l, known), l, known)
		sameList(t, bondsOf(t, final, known), bondsOf(t, l, known), l, known)
		if len(final) < len(sortedOf(t, l)) {
			met++
		}
	})
	equal(t, met > 1000, true, met)
}

// P8.15: After is Before plus the lines, and statements of neighbouring spans are together that of both.
func TestStatementsTogether(t *testing.T) {
	met := 0
	forItems(1000, 40, func(d *dice, l []api.Item, known int) {
		days := d.days(l)
		cut := d.between(days.Lo, days.Hi)
		for _, account := range someAccounts() {
			both := stateOf(t, l, account, days, known)
			sum := both.Before
			for _, p := range both.Lines {
				equal(t, p.Account, account, l, known)
				sum += p.Amount
			}
			equal(t, both.After, sum, l, known, account, days)
			if cut == days.Hi {
				continue
			}
			a, b := stateOf(t, l, account, span(days.Lo, cut), known), stateOf(t, l, account, span(cut+1, days.Hi), known)
			equal(t, a.After, b.Before, l, known, account, days)
			together := api.Statement{Before: a.Before, After: b.After, Lines: slices.Concat(a.Lines, b.Lines)}
			sameStatement(t, both, together, l, known, account, days)
			equal(t, ledger.CheckState(l, account, days, known, together), api.OK)
			if len(a.Lines) > 0 && len(b.Lines) > 0 {
				met++
			}
		}
	})
	equal(t, met > 100, true, met)
}

// P8.16: no account gets back more than it has paid, or put down; what AcBonds holds is the opposite of all bonds.
func TestNeverTooMuch(t *testing.T) {
	met := map[string]int{}
	forItems(2000, 40, func(d *dice, l []api.Item, known int) {
		refused := refusedOf(t, l, known)
		paid, put := map[int]int{}, map[int]int{}
		for _, x := range sortedOf(t, l) {
			if x.Known > known || slices.Contains(refused, x.ID) {
				continue
			}
			switch x.Kind {
			case api.ItPay:
				paid[x.Account] += x.Amount
			case api.ItRefund:
				paid[x.Account] -= x.Amount
				met["back"]++
			case api.ItBond:
				put[x.Account] += x.Amount
			case api.ItFree:
				put[x.Account] -= x.Amount
				met["free"]++
			}
			equal(t, paid[x.Account] >= 0 && put[x.Account] >= 0, true, l, known, x)
		}
		bonds := 0
		for _, x := range bondsOf(t, l, known) {
			equal(t, x.Amount, put[x.Account], l, known)
			bonds += x.Amount
		}
		equal(t, holdOf(t, l, api.AcBonds, last, known), -bonds, l, known)
	})
	enough(t, met, 200, "back", "free")
}

// P8.2, P8.5, P8.11: an item that is refused changes nothing for the others.
func TestRefusedChangeNothing(t *testing.T) {
	met := 0
	forItems(1000, 30, func(d *dice, l []api.Item, known int) {
		days := d.days(l)
		for _, id := range refusedOf(t, l, last) {
			less := without(l, id)
			sameList(t, postingsOf(t, less, known), postingsOf(t, l, known), l, known, id)
			sameList(t, balancesOf(t, less, days.Lo, known), balancesOf(t, l, days.Lo, known), l, known, id)
			sameList(t, movedOf(t, less, days.Lo, days.Hi), movedOf(t, l, days.Lo, days.Hi), l, days, id)
			sameList(t, finalOf(t, less, known), finalOf(t, l, known), l, known, id)
			met++
		}
	})
	equal(t, met > 500, true, met)
}

// P8.1 to P8.9: all that is said together of the examples.
func TestExamplesTogether(t *testing.T) {
	l := example()
	equal(t, ledger.Check(l), api.OK)
	a := told(t, l, span(5, 8), 9)
	sameList(t, a.sorted, l)
	sameList(t, a.refused, []int{5})
	equal(t, a.closed, 7)
	sameList(t, a.bonds, []api.Balance{balance(21, 40)})
	sameList(t, a.postings, examplePostings())
	sameList(t, fine[[]api.Posting](t)(ledger.Read(a.leaves)), a.postings)
}
