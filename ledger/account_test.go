package ledger_test

import (
	"slices"
	"testing"

	"kentledge/api"
	"kentledge/ledger"
)

// P8.3: the examples of the chapter.
func TestHoldOfExamples(t *testing.T) {
	for _, c := range []struct{ account, day, known, want int }{
		{20, 7, 8, 40}, {20, 7, 9, 40}, {20, 8, 9, 70}, {20, 5, 9, 100}, {20, 4, 9, 100}, {20, 3, 9, 0}, {20, 4, 4, 0}, {20, last, 5, 100},
		{2, last, 8, -100}, {2, last, 9, -130}, {1, last, 9, 100}, {1, 7, 9, 60}, {1, 6, 9, 60}, {1, 5, 9, 0}, {3, last, 9, -40}, {3, 7, 9, 0},
		{21, last, 9, 0}, {99, last, 9, 0}, {10, 0, 0, 0}, {api.MaxID, last, last, 0},
	} {
		equal(t, holdOf(t, example(), c.account, c.day, c.known), c.want, c)
	}
}

// P8.3: the examples of the chapter.
func TestBalancesOfExamples(t *testing.T) {
	sameList(t, balancesOf(t, example(), last, 9), []api.Balance{balance(1, 100), balance(2, -130), balance(3, -40), balance(20, 70)})
	sameList(t, balancesOf(t, example(), 5, 9), []api.Balance{balance(2, -100), balance(20, 100)})
	sameList(t, balancesOf(t, example(), 4, 5), []api.Balance{balance(2, -100), balance(20, 100)})
	sameList(t, balancesOf(t, example(), 3, 9), nil)
	sameList(t, balancesOf(t, example(), last, 4), nil)
	sameList(t, owingOf(t, example(), last, 9), []api.Balance{balance(20, 70)})
	sameList(t, owingOf(t, example(), 7, 9), []api.Balance{balance(20, 40)})
	sameList(t, owingOf(t, example(), 3, 9), nil)
}

// P8.3: accounts with postings stand there also if they hold nothing; of these, only others that hold more owe.
func TestBalancesOfNothing(t *testing.T) {
	l := []api.Item{
		bill(1, 1, 2, 1, 30, 5), pay(2, 1, 3, 30, 5),
		bill(3, 1, 2, 2, 10, 0),
		pay(4, 1, 2, 40, 7),
		bill(5, 1, 2, 3, api.MaxID, 1),
		bond(6, 1, 4, 50, 9), free(7, 1, 5, 50, 9),
	}
	sameList(t, balancesOf(t, l, 1, 1), nil)
	sameList(t, balancesOf(t, l, 2, 1), []api.Balance{balance(1, 7), balance(2, -6), balance(10, 0), balance(30, 5), balance(40, -7), balance(api.MaxID, 1)})
	sameList(t, balancesOf(t, l, 3, 1), []api.Balance{balance(1, 12), balance(2, -6), balance(10, 0), balance(30, 0), balance(40, -7), balance(api.MaxID, 1)})
	sameList(t, balancesOf(t, l, last, 1), []api.Balance{balance(1, 12), balance(2, -6), balance(3, 0), balance(10, 0), balance(30, 0), balance(40, -7), balance(api.MaxID, 1)})
	sameList(t, owingOf(t, l, 2, 1), []api.Balance{balance(30, 5), balance(api.MaxID, 1)})
	sameList(t, owingOf(t, l, 3, 1), []api.Balance{balance(api.MaxID, 1)})
	sameList(t, balancesOf(t, l, last, 0), nil)
	sameList(t, balancesOf(t, []api.Item{closing(1, 1, 5)}, last, last), nil)
	sameList(t, balancesOf(t, nil, last, last), nil)
	one := []api.Item{bill(1, 1, 2, 1, 10, 1)}
	sameList(t, owingOf(t, one, 2, 1), []api.Balance{balance(10, 1)})
	sameList(t, owingOf(t, one[:0], 2, 1), nil)
	rich := []api.Item{pay(1, 1, 2, 30, 5), bond(2, 1, 2, 30, 5)} // the chest holds something, and does not owe
	sameList(t, owingOf(t, rich, last, last), nil)
	sameList(t, owingOf(t, append(rich, refund(3, 1, 3, 30, 5), free(4, 1, 3, 30, 5), bill(5, 1, 1, 1, 30, 6)), last, last), []api.Balance{balance(30, 6)})
}

// P8.3: what accounts hold is the sum of their postings on days up to one, and these are the days on which they are posted.
func TestHoldByWords(t *testing.T) {
	owing := 0
	forItems(1500, 25, func(d *dice, l []api.Item, known int) {
		w, day := byWords(l, known), d.known(l)
		for _, account := range someAccounts() {
			equal(t, holdOf(t, l, account, day, known), w.holds(account, day), l, account, day, known)
		}
		sameList(t, balancesOf(t, l, day, known), w.balances(day), l, day, known)
		var want []api.Balance
		for _, x := range w.balances(day) {
			if x.Account > 9 && x.Amount > 0 {
				want = append(want, x)
			}
		}
		sameList(t, owingOf(t, l, day, known), want, l, day, known)
		owing += len(want)
	})
	equal(t, owing > 300, true, owing)
}

// P8.3: sums of as much as can be.
func TestGreatSums(t *testing.T) {
	var l []api.Item
	for i := range api.MaxItems {
		l = append(l, bill(i+1, i, i, i+1, 30, api.MaxPence))
	}
	equal(t, holdOf(t, l, 30, last, last), 60<<24)
	equal(t, holdOf(t, l, 2, last, last), -60<<24)
	equal(t, holdOf(t, l, 30, 29, last), 30<<24)
	sameList(t, owingOf(t, l, last, 9), []api.Balance{balance(30, 10<<24)})
	equal(t, stateOf(t, l, 30, span(0, last), last).After, 60<<24)
	var bonds []api.Item
	for i := range api.MaxItems {
		bonds = append(bonds, bond(i+1, i, i, 30, api.MaxPence))
	}
	sameList(t, bondsOf(t, bonds, last), []api.Balance{balance(30, 60<<24)})
	sameList(t, bondsOf(t, append(bonds[:58], free(59, 70, 1, 30, 1<<24), free(60, 71, 1, 30, 1<<24)), last), []api.Balance{balance(30, 56<<24)})
}

// P8.4: the examples of the chapter, and days at the ends of a span.
func TestStateOfExamples(t *testing.T) {
	first, paid, mended := posting(1, 4, 20, 100), posting(2, 6, 20, -60), posting(4, 8, 20, 30)
	for _, c := range []struct {
		days  api.Span
		known int
		want  api.Statement
	}{
		{span(5, 8), 9, api.Statement{Before: 100, After: 70, Lines: []api.Posting{paid, mended}}},
		{span(0, 4), 5, api.Statement{After: 100, Lines: []api.Posting{first}}},
		{span(0, 3), 9, api.Statement{}},
		{span(0, 0), 9, api.Statement{}},
		{span(4, 4), 9, api.Statement{After: 100, Lines: []api.Posting{first}}},
		{span(5, 5), 9, api.Statement{Before: 100, After: 100}},
		{span(5, 6), 9, api.Statement{Before: 100, After: 40, Lines: []api.Posting{paid}}},
		{span(6, 7), 9, api.Statement{Before: 100, After: 40, Lines: []api.Posting{paid}}},
		{span(7, 7), 9, api.Statement{Before: 40, After: 40}},
		{span(8, 8), 9, api.Statement{Before: 40, After: 70, Lines: []api.Posting{mended}}},
		{span(9, last), 9, api.Statement{Before: 70, After: 70}},
		{span(0, last), 9, api.Statement{After: 70, Lines: []api.Posting{first, paid, mended}}},
		{span(0, last), 8, api.Statement{After: 40, Lines: []api.Posting{first, paid}}},
		{span(0, last), 4, api.Statement{}},
		{span(last, last), 4, api.Statement{}},
	} {
		sameStatement(t, stateOf(t, example(), 20, c.days, c.known), c.want, c.days, c.known)
		equal(t, ledger.CheckState(example(), 20, c.days, c.known, c.want), api.OK, c.days, c.known)
	}
	sameStatement(t, stateOf(t, example(), 2, span(5, 8), 9), api.Statement{Before: -100, After: -130, Lines: []api.Posting{posting(4, 8, 2, -30)}})
	sameStatement(t, stateOf(t, example(), 99, span(0, last), 9), api.Statement{})
}

// P8.4: on the day 0 there is nothing before, and lines of the last day count.
func TestStateAtTheEnds(t *testing.T) {
	l := []api.Item{bill(1, 0, 0, 1, 10, 5), pay(2, 0, last, 10, 3)}
	first, second := posting(1, 0, 10, 5), posting(2, last, 10, -3)
	sameStatement(t, stateOf(t, l, 10, span(0, 0), 0), api.Statement{After: 5, Lines: []api.Posting{first}})
	sameStatement(t, stateOf(t, l, 10, span(1, 1), 0), api.Statement{Before: 5, After: 5})
	sameStatement(t, stateOf(t, l, 10, span(last, last), 0), api.Statement{Before: 5, After: 2, Lines: []api.Posting{second}})
	sameStatement(t, stateOf(t, l, 10, span(0, last), 0), api.Statement{After: 2, Lines: []api.Posting{first, second}})
}

// P8.4: lines stand by day, and those of a day in the order in which they were made.
func TestLinesInOrder(t *testing.T) {
	l := []api.Item{
		pay(9, 1, 8, 10, 1), pay(5, 2, 3, 10, 2), pay(4, 2, 8, 10, 3), pay(7, 3, 3, 10, 4), pay(3, 4, 0, 10, 5), pay(2, 5, 8, 10, 6), pay(1, 6, 3, 10, 7),
		refund(6, 7, 3, 10, 8),
	}
	want := []api.Posting{
		posting(3, 0, 1, 5), posting(5, 3, 1, 2), posting(7, 3, 1, 4), posting(1, 3, 1, 7), posting(6, 3, 1, -8),
		posting(9, 8, 1, 1), posting(4, 8, 1, 3), posting(2, 8, 1, 6),
	}
	sameList(t, stateOf(t, l, 1, span(0, last), last).Lines, want)
	sameList(t, stateOf(t, l, 1, span(3, 7), last).Lines, want[1:5])
	var many []api.Item // so many of one day that a sort that mixes equal ones would show
	for i := range api.MaxItems {
		many = append(many, pay(api.MaxItems-i, i, 9-i%3, 10, 1+i))
	}
	w := byWords(many, last)
	sameStatement(t, stateOf(t, many, 10, span(0, last), last), w.statement(10, span(0, last)))
	equal(t, len(w.statement(10, span(0, last)).Lines), 60)
}

// P8.4: statements are what the words of the chapter say.
func TestStateByWords(t *testing.T) {
	lines := 0
	forItems(1500, 25, func(d *dice, l []api.Item, known int) {
		w, days := byWords(l, known), d.days(l)
		for _, account := range someAccounts() {
			want := w.statement(account, days)
			sameStatement(t, stateOf(t, l, account, days, known), want, l, account, days, known)
			equal(t, ledger.CheckState(l, account, days, known, want), api.OK, l, account, days, known)
			lines += len(want.Lines)
		}
	})
	equal(t, lines > 5000, true, lines)
}

// wrongStatements are other ones than a statement.
func wrongStatements(s api.Statement) []api.Statement {
	var all []api.Statement
	change := func(do func(x *api.Statement)) {
		x := s
		x.Lines = slices.Clone(s.Lines)
		do(&x)
		all = append(all, x)
	}
	for _, n := range []int{1, -1, 1 << 32, -1 << 63} {
		change(func(x *api.Statement) { x.Before += n })
		change(func(x *api.Statement) { x.After += n })
		change(func(x *api.Statement) { x.Before += n; x.After += n })
		for i := range s.Lines {
			change(func(x *api.Statement) { x.Lines[i].Item += n })
			change(func(x *api.Statement) { x.Lines[i].Day += n })
			change(func(x *api.Statement) { x.Lines[i].Account += n })
			change(func(x *api.Statement) { x.Lines[i].Amount += n })
		}
	}
	change(func(x *api.Statement) { x.Lines = append(x.Lines, posting(1, 1, 1, 0)) })
	change(func(x *api.Statement) { x.Lines = append(x.Lines, api.Posting{}) })
	for i := range s.Lines {
		change(func(x *api.Statement) { x.Lines = slices.Delete(x.Lines, i, i+1) })
		change(func(x *api.Statement) { x.Lines = slices.Insert(x.Lines, i, x.Lines[i]) })
		if i > 0 {
			change(func(x *api.Statement) { x.Lines[i], x.Lines[i-1] = x.Lines[i-1], x.Lines[i] })
		}
	}
	return all
}

// P8.4: CheckState accepts that statement, and no other one.
func TestCheckState(t *testing.T) {
	for _, account := range []int{1, 2, 3, 20, 21} {
		for _, days := range []api.Span{span(5, 8), span(0, 4), span(0, last), span(7, 7)} {
			s := stateOf(t, example(), account, days, 9)
			equal(t, ledger.CheckState(example(), account, days, 9, s), api.OK, account, days)
			for _, x := range wrongStatements(s) {
				equal(t, ledger.CheckState(example(), account, days, 9, x), api.ErrProof, account, days, x)
			}
		}
	}
	s := stateOf(t, example(), 20, span(5, 8), 9)
	equal(t, ledger.CheckState(example(), 20, span(5, 9), 9, s), api.OK) // nothing came on the day 9
	equal(t, ledger.CheckState(example(), 20, span(4, 8), 9, s), api.ErrProof)
	equal(t, ledger.CheckState(example(), 20, span(5, 8), 8, s), api.ErrProof)
	equal(t, ledger.CheckState(example(), 2, span(5, 8), 9, s), api.ErrProof)
	equal(t, ledger.CheckState(example(), 99, span(5, 8), 9, api.Statement{Lines: []api.Posting{}}), api.OK)
	equal(t, ledger.CheckState(nil, 99, span(5, 8), 9, api.Statement{Lines: nil}), api.OK)
	equal(t, ledger.CheckState(example(), 99, span(5, 8), 9, s), api.ErrProof)
}

// P8.6: the examples of the chapter.
func TestBondsOfExamples(t *testing.T) {
	sameList(t, bondsOf(t, example(), 9), []api.Balance{balance(21, 40)})
	sameList(t, bondsOf(t, example(), 8), nil)
	sameList(t, bondsOf(t, nil, last), nil)
}

// P8.6: bonds by accounts, also where nothing is left; what was refused does not count, nor what was only paid.
func TestBondsOfAccounts(t *testing.T) {
	l := []api.Item{
		bond(1, 1, 2, 50, 5), bond(2, 1, 2, 40, 6), bond(3, 2, 2, 50, 7), bond(4, 2, 1, api.MaxID, 1), bond(5, 2, 1, 10, 2),
		free(6, 3, 2, 50, 12), free(7, 3, 2, 40, 7), free(8, 3, 2, 60, 1), free(9, 4, 2, 40, 4), free(10, 5, 2, 40, 3),
		pay(11, 1, 1, 70, 5), refund(12, 2, 1, 70, 2), bill(13, 1, 1, 1, 80, 6),
		closing(14, 6, last), bond(15, 7, 1, 90, 1), bond(16, 7, 1, 10, 1), free(17, 7, 1, 10, 1),
	}
	at := func(known int, want ...api.Balance) {
		t.Helper()
		sameList(t, bondsOf(t, l, known), want, known)
	}
	at(0)
	at(1, balance(40, 6), balance(50, 5))
	at(2, balance(10, 2), balance(40, 6), balance(50, 12), balance(api.MaxID, 1))
	at(3, balance(10, 2), balance(40, 6), balance(50, 0), balance(api.MaxID, 1))
	at(4, balance(10, 2), balance(40, 2), balance(50, 0), balance(api.MaxID, 1))
	at(last, balance(10, 2), balance(40, 2), balance(50, 0), balance(api.MaxID, 1))
}

// P8.6: the same of rolled items, by the words of the chapter.
func TestBondsByWords(t *testing.T) {
	met := map[bool]int{}
	forItems(2000, 40, func(d *dice, l []api.Item, known int) {
		w := byWords(l, known)
		var want []api.Balance
		for _, account := range someAccounts() {
			if amount, is := w.put[account]; is {
				want = append(want, balance(account, amount))
				met[amount == 0]++
			}
		}
		sameList(t, bondsOf(t, l, known), want, l, known)
	})
	enough(t, met, 100, true, false)
}
