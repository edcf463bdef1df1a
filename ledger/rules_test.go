package ledger_test

import (
	"reflect"
	"slices"
	"testing"

	"kentledge/api"
	"kentledge/ledger"
)

// ask is what functions with items are asked for; not all of it matters to each of them.
type ask struct {
	account, bill, day, known int
	from, to                  int
	days                      api.Span
	state                     api.Statement
}

// asked is one of these functions; empty tells whether the results beside the error are zero.
type asked struct {
	name string
	of   func(l []api.Item, a ask) (e api.Errno, empty bool)
}

// listing is one that returns a list.
func listing[T any](name string, of func(l []api.Item, a ask) ([]T, api.Errno)) asked {
	return asked{name, func(l []api.Item, a ask) (api.Errno, bool) {
		list, e := of(l, a)
		return e, len(list) == 0
	}}
}

// counting is one that returns a number.
func counting(name string, of func(l []api.Item, a ask) (int, api.Errno)) asked {
	return asked{name, func(l []api.Item, a ask) (api.Errno, bool) {
		n, e := of(l, a)
		return e, n == 0
	}}
}

// askedAlone lists the functions with items alone.
func askedAlone() []asked {
	return []asked{
		{"Check", func(l []api.Item, _ ask) (api.Errno, bool) { return ledger.Check(l), true }},
		listing("Sorted", func(l []api.Item, _ ask) ([]api.Item, api.Errno) { return ledger.Sorted(l) }),
		listing("Merge", func(l []api.Item, _ ask) ([]api.Item, api.Errno) { return ledger.Merge(l, nil) }),
		listing("Merge, the other way round", func(l []api.Item, _ ask) ([]api.Item, api.Errno) { return ledger.Merge(nil, l) }),
	}
}

// askedWhenKnown lists those with the day on which something is known, and no account or bill.
func askedWhenKnown() []asked {
	return []asked{
		listing("Postings", func(l []api.Item, a ask) ([]api.Posting, api.Errno) { return ledger.Postings(l, a.known) }),
		listing("Refused", func(l []api.Item, a ask) ([]int, api.Errno) { return ledger.Refused(l, a.known) }),
		counting("Closed", func(l []api.Item, a ask) (int, api.Errno) { return ledger.Closed(l, a.known) }),
		listing("Bonds", func(l []api.Item, a ask) ([]api.Balance, api.Errno) { return ledger.Bonds(l, a.known) }),
		listing("Final", func(l []api.Item, a ask) ([]api.Item, api.Errno) { return ledger.Final(l, a.known) }),
		listing("Leaves", func(l []api.Item, a ask) ([]api.Leaf, api.Errno) { return ledger.Leaves(l, a.known) }),
	}
}

// askedOfDays lists those with a day behind which something is held.
func askedOfDays() []asked {
	return []asked{
		counting("Hold", func(l []api.Item, a ask) (int, api.Errno) { return ledger.Hold(l, a.account, a.day, a.known) }),
		listing("Balances", func(l []api.Item, a ask) ([]api.Balance, api.Errno) { return ledger.Balances(l, a.day, a.known) }),
		listing("Owing", func(l []api.Item, a ask) ([]api.Balance, api.Errno) { return ledger.Owing(l, a.day, a.known) }),
	}
}

// askedOfStates lists those with a span of days.
func askedOfStates() []asked {
	return []asked{
		{"State", func(l []api.Item, a ask) (api.Errno, bool) {
			s, e := ledger.State(l, a.account, a.days, a.known)
			return e, s.Before == 0 && s.After == 0 && len(s.Lines) == 0
		}},
		{"CheckState", func(l []api.Item, a ask) (api.Errno, bool) {
			return ledger.CheckState(l, a.account, a.days, a.known, a.state), true
		}},
	}
}

func askedOfAmounts() []asked {
	return []asked{counting("Amount", func(l []api.Item, a ask) (int, api.Errno) { return ledger.Amount(l, a.bill, a.known) })}
}

func askedOfHistories() []asked {
	return []asked{listing("History", func(l []api.Item, a ask) ([]api.Change, api.Errno) { return ledger.History(l, a.bill) })}
}

func askedOfMoves() []asked {
	return []asked{listing("Moved", func(l []api.Item, a ask) ([]int, api.Errno) { return ledger.Moved(l, a.from, a.to) })}
}

func allAsked() []asked {
	return slices.Concat(askedAlone(), askedWhenKnown(), askedOfDays(), askedOfStates(), askedOfAmounts(), askedOfHistories(), askedOfMoves())
}

// right is what all of them can be asked for of the examples.
func right() ask {
	return ask{
		account: 20, bill: 7, day: 8, known: 9, from: 5, to: 9, days: span(5, 8),
		state: api.Statement{Before: 100, After: 70, Lines: []api.Posting{posting(2, 6, 20, -60), posting(4, 8, 20, 30)}},
	}
}

// allWrong is wrong in each part.
func allWrong() ask {
	return ask{account: 4, bill: 0, day: -1, known: 729, from: 729, to: -1, days: span(9, -1), state: api.Statement{Before: 1}}
}

// ends fails unless each function returns an error, and with it nothing.
func ends(t *testing.T, all []asked, l []api.Item, a ask, want api.Errno) {
	t.Helper()
	for _, f := range all {
		e, empty := f.of(l, a)
		equal(t, e, want, f.name, a)
		equal(t, empty, true, f.name, a)
	}
}

// P8.1, R3, R4: the error of the items comes first, whatever else is wrong, and with it nothing.
func TestErrorsOfItemsComeFirst(t *testing.T) {
	for _, a := range []ask{right(), allWrong()} {
		ends(t, allAsked(), append(full(), full()[0]), a, api.ErrLimit)
		ends(t, allAsked(), append(example(), api.Item{}), a, api.ErrArg)
		ends(t, allAsked(), append(example(), pay(2, 6, 6, 20, 61)), a, api.ErrTwice)
		ends(t, allAsked(), append(example(), pay(2, last, 6, 20, 60)), a, api.ErrTwice) // not known on any of these days
		ends(t, allAsked(), append([]api.Item{{}}, example()...), a, api.ErrArg)
		ends(t, allAsked(), append(full(), api.Item{}), a, api.ErrLimit)
	}
	for _, f := range allAsked() {
		e, _ := f.of(example(), right())
		equal(t, e, api.OK, f.name)
	}
}

func wrongDays() []int { return []int{-1, 729, -728, 1 << 32, minInt, maxInt} }

// P8.1, R3: then those of days, accounts and bills.
func TestErrorsOfDays(t *testing.T) {
	knowing := slices.Concat(askedWhenKnown(), askedOfDays(), askedOfStates(), askedOfAmounts())
	for _, l := range [][]api.Item{example(), nil} {
		for _, n := range wrongDays() {
			a := right()
			a.known = n
			ends(t, knowing, l, a, api.ErrArg)
			a = right()
			a.day = n
			ends(t, askedOfDays(), l, a, api.ErrArg)
			a = right()
			a.from = n
			ends(t, askedOfMoves(), l, a, api.ErrArg)
			a = right()
			a.to = n
			ends(t, askedOfMoves(), l, a, api.ErrArg)
			a.from = n
			ends(t, askedOfMoves(), l, a, api.ErrArg)
		}
	}
	for _, known := range []int{0, last} {
		a := right()
		a.known, a.day, a.from, a.to, a.days, a.state = known, known, 0, known, span(0, last), stateOf(t, example(), 20, span(0, last), known)
		for _, f := range slices.Concat(askedWhenKnown(), askedOfDays(), askedOfStates(), askedOfMoves()) {
			e, _ := f.of(example(), a)
			equal(t, e, api.OK, f.name, known)
		}
	}
}

// P8.1: accounts are 1 to 3, and 10 to api.MaxID.
func TestErrorsOfAccounts(t *testing.T) {
	some := append(askedOfStates(), askedOfDays()[0])
	for _, l := range [][]api.Item{example(), nil} {
		for _, n := range []int{0, 4, 5, 9, -1, 1<<40 + 1, minInt, maxInt} {
			a := right()
			a.account = n
			ends(t, some, l, a, api.ErrArg)
			a.state = api.Statement{}
			ends(t, some, l, a, api.ErrArg)
		}
	}
	for _, n := range []int{1, 2, 3, 10, 11, 1 << 40} {
		a := right()
		a.account, a.state = n, stateOf(t, example(), n, right().days, 9)
		for _, f := range some {
			e, _ := f.of(example(), a)
			equal(t, e, api.OK, f.name, n)
		}
	}
}

// P8.1, P8.5: bills are 1 to api.MaxID; that there is none comes last.
func TestErrorsOfBills(t *testing.T) {
	some := append(askedOfAmounts(), askedOfHistories()...)
	for _, l := range [][]api.Item{example(), nil} {
		for _, n := range []int{0, -1, 1<<40 + 1, minInt, maxInt} {
			a := right()
			a.bill = n
			ends(t, some, l, a, api.ErrArg)
		}
		for _, n := range []int{1, 6, 8, 1 << 40} {
			a := right()
			a.bill = n
			ends(t, some, l, a, api.ErrNone)
			a.known = -1
			ends(t, askedOfAmounts(), l, a, api.ErrArg)
		}
	}
	greatest := []api.Item{bill(1, 1, 1, 1<<40, 10, 3)}
	amountIs(t, greatest, 1<<40, 1, 3)
	amountIs(t, []api.Item{bill(1, 1, 1, 1, 10, 3)}, 1, 1, 3)
}

// P8.4, P8.5, R3: days that are none, or turned round, are wrong also where the statement is; the statement comes last.
func TestErrorsOfSpans(t *testing.T) {
	for _, s := range []api.Span{span(5, 4), span(-1, 4), span(5, 729), span(-1, 729), span(729, 729), span(-1, -1), span(-2, -1), span(728, 0), span(minInt, maxInt), span(maxInt, minInt), span(0, maxInt), span(minInt, 0)} {
		a := right()
		a.days = s
		ends(t, askedOfStates(), example(), a, api.ErrArg)
		a.state = api.Statement{}
		ends(t, askedOfStates(), example(), a, api.ErrArg)
		ends(t, askedOfStates(), nil, a, api.ErrArg)
	}
	for _, s := range []api.Span{span(9, 5), span(6, 5), span(728, 0)} {
		a := right()
		a.from, a.to = s.Lo, s.Hi
		ends(t, askedOfMoves(), example(), a, api.ErrArg)
		ends(t, askedOfMoves(), nil, a, api.ErrArg)
	}
	a := right()
	a.state.Before++
	equal(t, ledger.CheckState(example(), a.account, a.days, a.known, a.state), api.ErrProof)
	for _, change := range []func(a *ask){func(a *ask) { a.account = 4 }, func(a *ask) { a.known = -1 }, func(a *ask) { a.days.Hi = 4 }} {
		b := a
		change(&b)
		equal(t, ledger.CheckState(example(), b.account, b.days, b.known, b.state), api.ErrArg)
	}
}

// roomy returns a copy of a list with something behind its end, and a test that all of it is as it was.
func roomy[T any](l []T, mark T) ([]T, func() bool) {
	long := append(slices.Clone(l), mark, mark)
	before := slices.Clone(long)
	return long[:len(l)], func() bool { return reflect.DeepEqual(long, before) }
}

// spoil writes over all memory of a list.
func spoil[T any](l []T, mark T) {
	_ = append(l, mark)
	for i := range l {
		l[i] = mark
	}
}

// first is the first one of two results.
func first[T any](x T, _ api.Errno) T { return x }

// spoilAll spoils all lists that are returned for items.
func spoilAll(l []api.Item, a ask) {
	mark, line := pay(-7, -7, -7, -7, -7), posting(-7, -7, -7, -7)
	spoil(first(ledger.Sorted(l)), mark)
	spoil(first(ledger.Merge(l, nil)), mark)
	spoil(first(ledger.Merge(nil, l)), mark)
	spoil(first(ledger.Merge(l, l[:len(l)/2])), mark)
	spoil(first(ledger.Final(l, a.known)), mark)
	spoil(first(ledger.Postings(l, a.known)), line)
	spoil(first(ledger.Refused(l, a.known)), -7)
	spoil(first(ledger.Moved(l, a.from, a.to)), -7)
	spoil(first(ledger.Balances(l, a.day, a.known)), balance(-7, -7))
	spoil(first(ledger.Owing(l, a.day, a.known)), balance(-7, -7))
	spoil(first(ledger.Bonds(l, a.known)), balance(-7, -7))
	spoil(first(ledger.History(l, a.bill)), api.Change{Known: -7})
	spoil(first(ledger.State(l, a.account, a.days, a.known)).Lines, line)
	leaves := first(ledger.Leaves(l, a.known))
	for _, x := range leaves {
		spoil(x.Lines, line)
	}
	spoil(leaves, api.Leaf{Number: -7})
}

// rolled is what rolled items are asked for.
func rolled(d *dice, l []api.Item, known int) ask {
	days := d.days(l)
	return ask{account: d.account(), bill: d.bill(), day: d.known(l), known: known, from: days.Lo, to: days.Hi, days: days}
}

// R6: arguments are not changed, nor is what lies behind their ends; results are new memory.
func TestArgumentsStay(t *testing.T) {
	forItems(500, 30, func(d *dice, l []api.Item, known int) {
		l, isSame := roomy(l, pay(-7, -7, -7, -7, -7))
		a := rolled(d, l, known)
		state := stateOf(t, l, a.account, a.days, known)
		lines, isState := roomy(state.Lines, posting(-7, -7, -7, -7))
		a.state = api.Statement{Before: state.Before, After: state.After, Lines: lines}
		for _, f := range allAsked() {
			f.of(l, a)
		}
		spoilAll(l, a)
		equal(t, isSame() && isState(), true, l, a)
	})
	for _, n := range []int{0, 1, 6} { // in order already, so that nothing has to be moved
		l, isSame := roomy(example()[:n], pay(-7, -7, -7, -7, -7))
		spoilAll(l, right())
		equal(t, isSame(), true, n)
	}
}

// R6: leaves that are read stay, and what is read is new memory.
func TestLeavesStay(t *testing.T) {
	for _, n := range []int{1, 7, 8, 9, 16, 40} {
		leaves := paper(n)
		var tests []func() bool
		for i := range leaves {
			lines, is := roomy(leaves[i].Lines, posting(-7, -7, -7, -7))
			leaves[i].Lines = lines
			tests = append(tests, is)
		}
		leaves, isSame := roomy(leaves, api.Leaf{Number: -7})
		ledger.CheckLeaves(leaves)
		spoil(first(ledger.Read(leaves)), posting(-7, -7, -7, -7))
		equal(t, isSame(), true, n)
		for _, is := range tests {
			equal(t, is(), true, n)
		}
	}
}

// R6: leaves of one result share no memory with each other.
func TestLeavesShareNothing(t *testing.T) {
	leaves, want := leavesOf(t, full(), last), leavesOf(t, full(), last)
	for i := range leaves {
		for range 9 {
			_ = append(leaves[i].Lines, posting(-7, -7, -7, -7))
		}
		sameLeaves(t, leaves[i+1:], want[i+1:], i)
		spoil(leaves[i].Lines, posting(-7, -7, -7, -7))
		long := leaves[i].Lines[:cap(leaves[i].Lines)] // what an append without a copy would write over
		spoil(long, posting(-7, -7, -7, -7))
		sameLeaves(t, leaves[i+1:], want[i+1:], i)
	}
}

// R7: the same arguments have the same results, whatever was asked before, and is done to what was answered.
func TestSameResultsAgain(t *testing.T) {
	forItems(200, 30, func(d *dice, l []api.Item, known int) {
		a := rolled(d, l, known)
		want := told(t, l, a.days, known)
		for range 3 {
			spoilAll(l, a)
			spoilAll(example(), right())
			ledger.Check(append(full(), api.Item{}))
			ledger.Read(paper(961))
			sameAll(t, told(t, l, a.days, known), want, l, known)
		}
	})
}
