package ledger_test

import (
	"slices"
	"sort"
	"testing"

	"kentledge/api"
	"kentledge/ledger"
)

// amountIs fails unless a bill has an amount, as known on a day.
func amountIs(t *testing.T, l []api.Item, bill, known, want int) {
	t.Helper()
	n, e := ledger.Amount(l, bill, known)
	good(t, e, l, bill, known)
	equal(t, n, want, l, bill, known)
}

// noBill fails unless there is no such bill, as known on a day.
func noBill(t *testing.T, l []api.Item, bill, known int) {
	t.Helper()
	n, e := ledger.Amount(l, bill, known)
	equal(t, e, api.ErrNone, l, bill, known)
	equal(t, n, 0, l, bill, known)
}

// noHistory fails unless there is never such a bill.
func noHistory(t *testing.T, l []api.Item, bill int) {
	t.Helper()
	h, e := ledger.History(l, bill)
	equal(t, e, api.ErrNone, l, bill)
	equal(t, len(h), 0, l, bill)
}

// P8.5: the examples of the chapter.
func TestBillsOfExamples(t *testing.T) {
	l := example()
	for known, want := range map[int]int{5: 100, 8: 100, 9: 130, last: 130} {
		amountIs(t, l, 7, known, want)
	}
	for _, known := range []int{0, 4} {
		noBill(t, l, 7, known)
	}
	for _, number := range []int{1, 6, 8, 20, api.MaxID} {
		noBill(t, l, number, last)
		noHistory(t, l, number)
	}
	sameList(t, historyOf(t, l, 7), []api.Change{{Known: 5, Amount: 100}, {Known: 9, Amount: 130}})
	sameList(t, movedOf(t, l, 5, 9), []int{7})
	sameList(t, movedOf(t, l, 8, 9), []int{7})
	for _, c := range []api.Span{span(4, 9), span(0, last), span(5, 8), span(5, 5), span(9, 9), span(9, last), span(0, 0), span(last, last)} {
		sameList(t, movedOf(t, l, c.Lo, c.Hi), nil, c)
	}
}

// P8.5: a history has each amount, also the same one again, but none that was refused.
func TestHistory(t *testing.T) {
	l := []api.Item{
		mend(1, 1, 7, 3), bill(2, 1, 9, 7, 20, 5), mend(3, 1, 7, 5), bill(4, 2, 9, 7, 21, 6), mend(5, 2, 8, 6),
		mend(7, 3, 7, 0), mend(6, 3, 7, 9), mend(8, 4, 7, 0), mend(9, last, 7, 1),
		bill(10, 2, 9, 9, 20, 0), bill(11, last, 9, 10, 20, 4),
	}
	sameList(t, historyOf(t, l, 7), []api.Change{{Known: 1, Amount: 5}, {Known: 1, Amount: 5}, {Known: 3, Amount: 9}, {Known: 3, Amount: 0}, {Known: 4, Amount: 0}, {Known: last, Amount: 1}})
	sameList(t, historyOf(t, l, 9), []api.Change{{Known: 2, Amount: 0}})
	sameList(t, historyOf(t, l, 10), []api.Change{{Known: last, Amount: 4}})
	noHistory(t, l, 8)
	closed := append(slices.Clone(l), closing(20, 3, last))
	sameList(t, historyOf(t, closed, 7), []api.Change{{Known: 1, Amount: 5}, {Known: 1, Amount: 5}, {Known: 3, Amount: 9}, {Known: 3, Amount: 0}})
	noHistory(t, closed, 10)
	amountIs(t, closed, 7, last, 0)
	amountIs(t, l, 9, 2, 0)
	noBill(t, l, 9, 1)
}

// P8.5: an amount is the one that came in last, not the one with the greatest ID.
func TestAmountThatCameLast(t *testing.T) {
	l := []api.Item{bill(5, 1, 1, 7, 20, 10), mend(9, 2, 7, 11), mend(8, 2, 7, 12), mend(6, 3, 7, 13), mend(7, 3, 7, 14), mend(1, 4, 7, 15)}
	for known, want := range map[int]int{1: 10, 2: 11, 3: 14, 4: 15, 5: 15} {
		amountIs(t, l, 7, known, want)
	}
	d := &dice{}
	for range 20 {
		amountIs(t, shuffled(d, l), 7, 2, 11)
		amountIs(t, shuffled(d, l), 7, 3, 14)
	}
}

// P8.5: bills have moved whose amounts are other ones; those that came back have not, nor have those that are new.
func TestMoved(t *testing.T) {
	l := []api.Item{
		bill(1, 1, 1, 9, 20, 1), bill(2, 1, 1, 3, 20, 2), bill(3, 1, 1, 5, 20, 3), bill(4, 1, 1, api.MaxID, 20, 4), bill(5, 2, 1, 1, 20, 5),
		mend(6, 2, 9, 7), mend(7, 2, 3, 2), mend(8, 2, 5, 0), mend(9, 3, 5, 3), mend(10, 3, api.MaxID, 1), mend(11, 3, 1, 6), mend(12, 3, 2, 8),
		bill(13, 3, 1, 9, 20, 1),
	}
	for _, c := range []struct {
		from, to int
		want     []int
	}{
		{0, 3, nil}, {1, 1, nil}, {1, 2, []int{5, 9}}, {1, 3, []int{9, api.MaxID}}, {2, 3, []int{1, 5, api.MaxID}}, {3, last, nil}, {1, last, []int{9, api.MaxID}}, {0, last, nil},
	} {
		sameList(t, movedOf(t, l, c.from, c.to), c.want, c)
	}
	sameList(t, movedOf(t, nil, 0, last), nil)
}

// P8.5: all three of rolled items are what the words of the chapter say.
func TestBillsByWords(t *testing.T) {
	met := map[string]int{}
	forItems(2000, 25, func(d *dice, l []api.Item, known int) {
		w, whole := byWords(l, known), byWords(l, last)
		for _, number := range []int{1, 2, 3, 4, api.MaxID} {
			if _, is := w.bills[number]; is {
				amountIs(t, l, number, known, w.amount(number))
				met["amount"]++
			} else {
				noBill(t, l, number, known)
				met["no amount"]++
			}
			if want := whole.history[number]; len(want) > 0 {
				sameList(t, historyOf(t, l, number), want, l, number)
				met["history"] += len(want) - 1
			} else {
				noHistory(t, l, number)
				met["no history"]++
			}
		}
		days := d.days(l)
		want := movedByWords(byWords(l, days.Lo), byWords(l, days.Hi))
		sameList(t, movedOf(t, l, days.Lo, days.Hi), want, l, days)
		met["moved"] += len(want)
	})
	enough(t, met, 200, "amount", "no amount", "history", "no history")
	enough(t, met, 100, "moved")
}

// movedByWords are the bills of a ledger that have other amounts in a later one.
func movedByWords(early, late *words) []int {
	var moved []int
	for number := range early.bills {
		if early.amount(number) != late.amount(number) {
			moved = append(moved, number)
		}
	}
	sort.Ints(moved)
	return moved
}

// P8.7: the examples of the chapter.
func TestFinalOfExamples(t *testing.T) {
	l := example()
	mended := bill(1, 5, 4, 7, 20, 130)
	sameList(t, finalOf(t, l, 9), []api.Item{mended, l[1], l[2], l[5]})
	sameList(t, finalOf(t, l, 8), l[:3])
	sameList(t, finalOf(t, l, 5), l[:1])
	sameList(t, finalOf(t, l, 4), nil)
	sameList(t, finalOf(t, nil, last), nil)
}

// P8.7: items of all kinds but corrections stay as they are, in the order in which they came in; those that are refused do not.
func TestFinal(t *testing.T) {
	l := []api.Item{
		free(20, 6, 1, 30, 2), bill(19, 1, 8, 4, 30, 7), bill(18, 1, 9, 5, 31, 8), mend(17, 2, 4, 1), mend(1, 2, 5, 0), bill(2, 3, 9, 4, 30, 9),
		pay(16, 2, 3, 30, 5), refund(3, 3, 1, 30, 5), refund(4, 3, 1, 30, 1), bond(15, 3, 1, 30, 2), free(5, 3, 1, 30, 3),
		closing(14, 4, 20), closing(6, 5, 20), pay(7, 5, 1, 30, 1), mend(8, 5, 6, 1), mend(9, 5, 4, 6),
	}
	want := []api.Item{
		bill(18, 1, 9, 5, 31, 0), bill(19, 1, 8, 4, 30, 6), pay(16, 2, 3, 30, 5), refund(3, 3, 1, 30, 5), bond(15, 3, 1, 30, 2),
		closing(14, 4, 20), pay(7, 5, 1, 30, 1), free(20, 6, 1, 30, 2),
	}
	sameList(t, finalOf(t, l, last), want)
	sameList(t, finalOf(t, append(l, l...), last), want)
	sameList(t, finalOf(t, l, 1), []api.Item{bill(18, 1, 9, 5, 31, 8), bill(19, 1, 8, 4, 30, 7)})
	sameList(t, finalOf(t, l, 4), []api.Item{bill(18, 1, 9, 5, 31, 0), bill(19, 1, 8, 4, 30, 1), want[2], want[3], want[4], want[5]})
}

// P8.7: the same of rolled items, by the words of the chapter.
func TestFinalByWords(t *testing.T) {
	other := 0
	forItems(2000, 25, func(d *dice, l []api.Item, known int) {
		want := byWords(l, known).final()
		sameList(t, finalOf(t, l, known), want, l, known)
		for _, x := range want {
			if !slices.Contains(l, x) {
				other++
			}
		}
	})
	equal(t, other > 200, true, other)
}
