package ledger

import (
	"slices"

	"kentledge/api"
)

// amount returns the amount that a bill has, and whether there is such a bill.
func (b *book) amount(bill int) (int, bool) {
	l := b.amounts(bill)
	if len(l) == 0 {
		return 0, false
	}
	return l[len(l)-1].Amount, true
}

// Amount returns the amount of a bill, as known on a day.
func Amount(l []api.Item, bill, known int) (int, api.Errno) {
	if e := checkAsked(l, isDay(known), isID(bill)); e != api.OK {
		return 0, e
	}
	amount, is := bookOf(l, known).amount(bill)
	if !is {
		return 0, api.ErrNone
	}
	return amount, api.OK
}

// History returns all amounts of a bill, and when each one came to be known.
func History(l []api.Item, bill int) ([]api.Change, api.Errno) {
	if e := checkAsked(l, isID(bill)); e != api.OK {
		return nil, e
	}
	var changes []api.Change
	for _, x := range bookOf(l, api.MaxDay).amounts(bill) {
		changes = append(changes, api.Change{Known: x.Known, Amount: x.Amount})
	}
	if len(changes) == 0 {
		return nil, api.ErrNone
	}
	return changes, api.OK
}

// Moved returns the bills whose amounts are other ones as known on a later day.
func Moved(l []api.Item, from, to int) ([]int, api.Errno) {
	if e := checkAsked(l, isDay(from), isDay(to), from <= to); e != api.OK {
		return nil, e
	}
	var moved []int
	early, late := bookOf(l, from), bookOf(l, to)
	for _, x := range early.taken {
		if x.Kind != api.ItBill {
			continue
		}
		before, _ := early.amount(x.Bill)
		after, _ := late.amount(x.Bill)
		if before != after {
			moved = append(moved, x.Bill)
		}
	}
	slices.Sort(moved)
	return moved, api.OK
}

// Final returns items without corrections, whose bills have the amounts as known on a day.
func Final(l []api.Item, known int) ([]api.Item, api.Errno) {
	if e := checkAsked(l, isDay(known)); e != api.OK {
		return nil, e
	}
	b := bookOf(l, known)
	final := only(b.taken, func(x api.Item) bool { return x.Kind != api.ItMend })
	for i, x := range final {
		if x.Kind == api.ItBill {
			final[i].Amount, _ = b.amount(x.Bill)
		}
	}
	return final, api.OK
}
