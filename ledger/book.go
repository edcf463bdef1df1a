package ledger

import (
	"slices"

	"kentledge/api"
)

// book is the ledger of items that came in one behind the other.
type book struct {
	closed   int
	postings []api.Posting
	taken    []api.Item // those that were not refused
	refused  []int
}

// bookOf returns the ledger of items without an error, as known on a day.
func bookOf(l []api.Item, known int) *book {
	b := &book{closed: -1}
	take := map[int]func(api.Item) bool{
		api.ItBill:   b.bill,
		api.ItMend:   b.mend,
		api.ItPay:    b.pay,
		api.ItRefund: b.refund,
		api.ItBond:   b.bond,
		api.ItFree:   b.free,
		api.ItClose:  b.close,
	}
	for _, x := range sorted(l) {
		if x.Known > known {
			break
		}
		if take[x.Kind](x) {
			b.taken = append(b.taken, x)
		} else {
			b.refused = append(b.refused, x.ID)
		}
	}
	return b
}

// transfer posts an amount to an account, and its opposite to another one, on a day or, if it is closed, on the first one that is not; where there is none, it returns false.
func (b *book) transfer(item, day, amount, to, from int) bool {
	day = max(day, b.closed+1)
	if day > api.MaxDay {
		return false
	}
	b.postings = append(b.postings,
		api.Posting{Item: item, Day: day, Account: to, Amount: amount},
		api.Posting{Item: item, Day: day, Account: from, Amount: -amount})
	return true
}

// amounts returns the items that gave a bill its amounts, the bill itself first.
func (b *book) amounts(bill int) []api.Item {
	return only(b.taken, func(x api.Item) bool { return x.Bill == bill })
}

// left returns what accounts brought by items of one kind, less what they got back by items of another one.
func (b *book) left(in, out int) map[int]int {
	some := only(b.taken, func(x api.Item) bool { return x.Kind == in || x.Kind == out })
	return sums(some, func(x api.Item) (account, amount int) {
		if x.Kind == out {
			return x.Account, -x.Amount
		}
		return x.Account, x.Amount
	})
}

func (b *book) bill(x api.Item) bool {
	return len(b.amounts(x.Bill)) == 0 && b.transfer(x.ID, x.Day, x.Amount, x.Account, api.AcDues)
}

func (b *book) mend(x api.Item) bool {
	l := b.amounts(x.Bill)
	if len(l) == 0 {
		return false
	}
	bill, last := l[0], l[len(l)-1]
	return b.transfer(x.ID, bill.Day, x.Amount-last.Amount, bill.Account, api.AcDues)
}

func (b *book) pay(x api.Item) bool {
	return b.transfer(x.ID, x.Day, x.Amount, api.AcCash, x.Account)
}

func (b *book) refund(x api.Item) bool {
	paid := b.left(api.ItPay, api.ItRefund)
	return paid[x.Account] >= x.Amount && b.transfer(x.ID, x.Day, x.Amount, x.Account, api.AcCash)
}

func (b *book) bond(x api.Item) bool {
	return b.transfer(x.ID, x.Day, x.Amount, api.AcCash, api.AcBonds)
}

func (b *book) free(x api.Item) bool {
	bonds := b.left(api.ItBond, api.ItFree)
	return bonds[x.Account] >= x.Amount && b.transfer(x.ID, x.Day, x.Amount, api.AcBonds, api.AcCash)
}

func (b *book) close(x api.Item) bool {
	if x.Day <= b.closed {
		return false
	}
	b.closed = x.Day
	return true
}

// Postings returns all postings, as known on a day.
func Postings(l []api.Item, known int) ([]api.Posting, api.Errno) {
	if e := checkAsked(l, isDay(known)); e != api.OK {
		return nil, e
	}
	return bookOf(l, known).postings, api.OK
}

// Refused returns the items that bring nothing, as known on a day.
func Refused(l []api.Item, known int) ([]int, api.Errno) {
	if e := checkAsked(l, isDay(known)); e != api.OK {
		return nil, e
	}
	return slices.Sorted(slices.Values(bookOf(l, known).refused)), api.OK
}

// Closed returns the last day that is closed, as known on a day.
func Closed(l []api.Item, known int) (int, api.Errno) {
	if e := checkAsked(l, isDay(known)); e != api.OK {
		return 0, e
	}
	return bookOf(l, known).closed, api.OK
}
