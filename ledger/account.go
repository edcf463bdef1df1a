package ledger

import (
	"cmp"
	"maps"
	"slices"

	"kentledge/api"
)

// sums returns, for each account to which some things bring an amount, all of it.
func sums[T any](l []T, bring func(T) (account, amount int)) map[int]int {
	all := map[int]int{}
	for _, x := range l {
		account, amount := bring(x)
		all[account] += amount
	}
	return all
}

// balances returns sums by the numbers of their accounts.
func balances(sums map[int]int) []api.Balance {
	var l []api.Balance
	for _, account := range slices.Sorted(maps.Keys(sums)) {
		l = append(l, api.Balance{Account: account, Amount: sums[account]})
	}
	return l
}

// holding returns what accounts hold behind a day.
func (b *book) holding(day int) map[int]int {
	some := only(b.postings, func(p api.Posting) bool { return p.Day <= day })
	return sums(some, func(p api.Posting) (account, amount int) { return p.Account, p.Amount })
}

// Hold returns what an account holds behind a day, as known on another one.
func Hold(l []api.Item, account, day, known int) (int, api.Errno) {
	if e := checkAsked(l, isDay(day), isDay(known), isAccount(account)); e != api.OK {
		return 0, e
	}
	return bookOf(l, known).holding(day)[account], api.OK
}

// Balances returns what all accounts hold behind a day, as known on another one.
func Balances(l []api.Item, day, known int) ([]api.Balance, api.Errno) {
	if e := checkAsked(l, isDay(day), isDay(known)); e != api.OK {
		return nil, e
	}
	return balances(bookOf(l, known).holding(day)), api.OK
}

// Owing returns the accounts of others that owe something behind a day, as known on another one.
func Owing(l []api.Item, day, known int) ([]api.Balance, api.Errno) {
	all, e := Balances(l, day, known)
	return only(all, func(x api.Balance) bool { return isOther(x.Account) && x.Amount > 0 }), e
}

// State returns the statement of an account for some days, as known on a day.
func State(l []api.Item, account int, days api.Span, known int) (api.Statement, api.Errno) {
	if e := checkAsked(l, isDay(known), isAccount(account)); e != api.OK {
		return api.Statement{}, e
	}
	if !isDay(days.Lo) || !isDay(days.Hi) || days.Lo > days.Hi {
		return api.Statement{}, api.ErrArg
	}
	b := bookOf(l, known)
	lines := only(b.postings, func(p api.Posting) bool {
		return p.Account == account && within(p.Day, days.Lo, days.Hi)
	})
	slices.SortStableFunc(lines, func(p, q api.Posting) int { return cmp.Compare(p.Day, q.Day) })
	return api.Statement{
		Before: b.holding(days.Lo - 1)[account],
		After:  b.holding(days.Hi)[account],
		Lines:  lines,
	}, api.OK
}

// CheckState returns OK if a statement is right.
func CheckState(l []api.Item, account int, days api.Span, known int, s api.Statement) api.Errno {
	right, e := State(l, account, days, known)
	if e != api.OK {
		return e
	}
	if s.Before != right.Before || s.After != right.After || !slices.Equal(s.Lines, right.Lines) {
		return api.ErrProof
	}
	return api.OK
}

// Bonds returns the bonds that are put down, as known on a day.
func Bonds(l []api.Item, known int) ([]api.Balance, api.Errno) {
	if e := checkAsked(l, isDay(known)); e != api.OK {
		return nil, e
	}
	return balances(bookOf(l, known).left(api.ItBond, api.ItFree)), api.OK
}
