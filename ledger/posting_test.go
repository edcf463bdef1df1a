package ledger_test

import (
	"slices"
	"testing"

	"kentledge/api"
	"kentledge/ledger"
)

// P8.2: the examples of the chapter.
func TestPostingsOfExamples(t *testing.T) {
	for _, c := range []struct{ known, postings, closed, refused int }{
		{0, 0, -1, 0}, {4, 0, -1, 0}, {5, 2, -1, 0}, {6, 4, -1, 0}, {7, 4, -1, 0}, {8, 4, 7, 0}, {9, 8, 7, 1}, {10, 8, 7, 1}, {last, 8, 7, 1},
	} {
		sameList(t, postingsOf(t, example(), c.known), examplePostings()[:c.postings], c.known)
		equal(t, closedOf(t, example(), c.known), c.closed, c.known)
		sameList(t, refusedOf(t, example(), c.known), []int{5}[:c.refused], c.known)
	}
}

// course is items, and what comes of them.
type course struct {
	about    string
	items    []api.Item
	postings []api.Posting
	refused  []int
	closed   int
}

// follow fails unless items bring what they should, in whatever order they stand.
func follow(t *testing.T, all []course) {
	t.Helper()
	d := &dice{state: 2}
	for _, c := range all {
		for range 6 {
			l := shuffled(d, c.items)
			sameList(t, postingsOf(t, l, last), c.postings, c.about)
			sameList(t, refusedOf(t, l, last), c.refused, c.about)
			equal(t, closedOf(t, l, last), c.closed, c.about)
		}
	}
}

// P8.2: what each kind brings, to which account first.
func TestWhatKindsBring(t *testing.T) {
	follow(t, []course{
		{"nothing", nil, nil, nil, -1},
		{"a bill", []api.Item{bill(9, 3, 5, 1, 30, 8)},
			[]api.Posting{posting(9, 5, 30, 8), posting(9, 5, 2, -8)}, nil, -1},
		{"a bill of nothing", []api.Item{bill(9, 3, 5, 1, 30, 0)},
			[]api.Posting{posting(9, 5, 30, 0), posting(9, 5, 2, 0)}, nil, -1},
		{"a bill that is more", []api.Item{bill(9, 3, 5, 1, 30, 8), mend(10, 3, 1, 20)},
			[]api.Posting{posting(9, 5, 30, 8), posting(9, 5, 2, -8), posting(10, 5, 30, 12), posting(10, 5, 2, -12)}, nil, -1},
		{"a bill that is less", []api.Item{bill(9, 3, 5, 1, 30, 8), mend(10, 3, 1, 0)},
			[]api.Posting{posting(9, 5, 30, 8), posting(9, 5, 2, -8), posting(10, 5, 30, -8), posting(10, 5, 2, 8)}, nil, -1},
		{"a bill that is the same", []api.Item{bill(9, 3, 5, 1, 30, 8), mend(10, 3, 1, 8)},
			[]api.Posting{posting(9, 5, 30, 8), posting(9, 5, 2, -8), posting(10, 5, 30, 0), posting(10, 5, 2, 0)}, nil, -1},
		{"a payment", []api.Item{pay(9, 3, 5, 30, 8)},
			[]api.Posting{posting(9, 5, 1, 8), posting(9, 5, 30, -8)}, nil, -1},
		{"a refund", []api.Item{pay(9, 3, 5, 30, 8), refund(10, 3, 2, 30, 8)},
			[]api.Posting{posting(9, 5, 1, 8), posting(9, 5, 30, -8), posting(10, 2, 30, 8), posting(10, 2, 1, -8)}, nil, -1},
		{"a bond", []api.Item{bond(9, 3, 5, 30, 8)},
			[]api.Posting{posting(9, 5, 1, 8), posting(9, 5, 3, -8)}, nil, -1},
		{"a bond that is given back", []api.Item{bond(9, 3, 5, 30, 8), free(10, 3, 2, 30, 8)},
			[]api.Posting{posting(9, 5, 1, 8), posting(9, 5, 3, -8), posting(10, 2, 3, 8), posting(10, 2, 1, -8)}, nil, -1},
		{"a closing", []api.Item{closing(9, 3, 5)}, nil, nil, 5},
		{"the greatest numbers", []api.Item{bill(1<<40, 728, 728, 1<<40, 1<<40, 1<<24)},
			[]api.Posting{posting(1<<40, 728, 1<<40, 1<<24), posting(1<<40, 728, 2, -1<<24)}, nil, -1},
		{"the first day", []api.Item{bill(1, 0, 0, 1, 10, 1)},
			[]api.Posting{posting(1, 0, 10, 1), posting(1, 0, 2, -1)}, nil, -1},
	})
}

// P8.2: each correction is posted once, with what it changes, whatever came in between.
func TestCorrections(t *testing.T) {
	one := []api.Posting{posting(1, 5, 30, 8), posting(1, 5, 2, -8)}
	follow(t, []course{
		{"three of one bill", []api.Item{bill(1, 3, 5, 1, 30, 8), mend(2, 3, 1, 20), mend(4, 4, 1, 5), mend(3, 6, 1, 6)},
			append(slices.Clone(one), posting(2, 5, 30, 12), posting(2, 5, 2, -12), posting(4, 5, 30, -15), posting(4, 5, 2, 15), posting(3, 5, 30, 1), posting(3, 5, 2, -1)), nil, -1},
		{"of two bills", []api.Item{bill(1, 3, 5, 1, 30, 8), bill(2, 3, 4, 2, 31, 9), mend(3, 4, 2, 5), mend(4, 4, 1, 9), mend(5, 4, 2, 6)},
			append(slices.Clone(one), posting(2, 4, 31, 9), posting(2, 4, 2, -9), posting(3, 4, 31, -4), posting(3, 4, 2, 4), posting(4, 5, 30, 1), posting(4, 5, 2, -1), posting(5, 4, 31, 1), posting(5, 4, 2, -1)), nil, -1},
		{"of no bill", []api.Item{bill(1, 3, 5, 1, 30, 8), mend(2, 3, 2, 20)}, one, []int{2}, -1},
		{"ahead of the bill, by a day", []api.Item{bill(2, 3, 5, 1, 30, 8), mend(9, 2, 1, 20)},
			[]api.Posting{posting(2, 5, 30, 8), posting(2, 5, 2, -8)}, []int{9}, -1},
		{"ahead of the bill, by its ID", []api.Item{bill(2, 3, 5, 1, 30, 8), mend(1, 3, 1, 20)},
			[]api.Posting{posting(2, 5, 30, 8), posting(2, 5, 2, -8)}, []int{1}, -1},
		{"of a bill that is there already", []api.Item{bill(1, 3, 5, 1, 30, 8), bill(2, 3, 4, 1, 31, 9), mend(3, 3, 1, 9)},
			append(slices.Clone(one), posting(3, 5, 30, 1), posting(3, 5, 2, -1)), []int{2}, -1},
		{"of a bill that was refused", []api.Item{closing(1, 1, last), bill(2, 3, 5, 1, 30, 8), mend(3, 3, 1, 20)}, nil, []int{2, 3}, last},
	})
}

// P8.2: nothing is posted on a day that was closed.
func TestClosedDays(t *testing.T) {
	all := func(day int) []api.Item {
		return []api.Item{
			bill(10, 2, day, 1, 30, 8), mend(11, 2, 1, 9), pay(12, 2, day, 30, 7), refund(13, 2, day, 30, 6),
			bond(14, 2, day, 30, 5), free(15, 2, day, 30, 4),
		}
	}
	on := func(day int) []api.Posting {
		return []api.Posting{
			posting(10, day, 30, 8), posting(10, day, 2, -8), posting(11, day, 30, 1), posting(11, day, 2, -1),
			posting(12, day, 1, 7), posting(12, day, 30, -7), posting(13, day, 30, 6), posting(13, day, 1, -6),
			posting(14, day, 1, 5), posting(14, day, 3, -5), posting(15, day, 3, 4), posting(15, day, 1, -4),
		}
	}
	from := func(closed, day int) []api.Item { return append(all(day), closing(1, 1, closed)) }
	ids := []int{10, 11, 12, 13, 14, 15}
	follow(t, []course{
		{"none is closed", all(3), on(3), nil, -1},
		{"the day is closed", from(3, 3), on(4), nil, 3},
		{"a later one is closed", from(9, 3), on(10), nil, 9},
		{"the day ahead is closed", from(2, 3), on(3), nil, 2},
		{"only the first one is closed", from(0, 0), on(1), nil, 0},
		{"only the first one is closed, for others", from(0, 1), on(1), nil, 0},
		{"all but the last one are closed", from(last-1, 3), on(last), nil, last - 1},
		{"all but the last one are closed, for it", from(last-1, last), on(last), nil, last - 1},
		{"all are closed", from(last, 3), nil, ids, last},
		{"all are closed, for the last one", from(last, last), nil, ids, last},
		{"closed later", append(all(3), closing(20, 2, 9)), on(3), nil, 9},
		{"closed on an earlier day by a greater ID", append(all(3), closing(20, 1, 9)), on(10), nil, 9},
	})
}

// P8.2: corrections of bills of days that were closed in between stand on the first day that is not.
func TestCorrectionsOfClosedDays(t *testing.T) {
	follow(t, []course{
		{"the bill is old, the correction is not", []api.Item{bill(1, 3, 5, 1, 30, 8), closing(2, 4, 6), mend(3, 5, 1, 9)},
			[]api.Posting{posting(1, 5, 30, 8), posting(1, 5, 2, -8), posting(3, 7, 30, 1), posting(3, 7, 2, -1)}, nil, 6},
		{"the bill's day stays open", []api.Item{bill(1, 3, 5, 1, 30, 8), closing(2, 4, 4), mend(3, 5, 1, 9)},
			[]api.Posting{posting(1, 5, 30, 8), posting(1, 5, 2, -8), posting(3, 5, 30, 1), posting(3, 5, 2, -1)}, nil, 4},
		{"the day of an earlier correction is closed, too", []api.Item{bill(1, 3, 5, 1, 30, 8), closing(2, 4, 6), mend(3, 5, 1, 9), closing(4, 5, 7), mend(5, 5, 1, 7)},
			[]api.Posting{posting(1, 5, 30, 8), posting(1, 5, 2, -8), posting(3, 7, 30, 1), posting(3, 7, 2, -1), posting(5, 8, 30, -2), posting(5, 8, 2, 2)}, nil, 7},
		{"all is closed behind the bill", []api.Item{bill(1, 3, 5, 1, 30, 8), closing(2, 4, last), mend(3, 5, 1, 9)},
			[]api.Posting{posting(1, 5, 30, 8), posting(1, 5, 2, -8)}, []int{3}, last},
		{"what is refused for good changes no amount", []api.Item{bill(1, 3, 5, 1, 30, 8), closing(2, 4, last), mend(3, 5, 1, 9), mend(4, 5, 1, 8)},
			[]api.Posting{posting(1, 5, 30, 8), posting(1, 5, 2, -8)}, []int{3, 4}, last},
	})
}

// P8.2: days are closed once, and only later ones.
func TestClosings(t *testing.T) {
	follow(t, []course{
		{"later ones", []api.Item{closing(1, 1, 0), closing(2, 1, 1), closing(3, 2, 9), closing(4, 4, last)}, nil, nil, last},
		{"the same one again", []api.Item{closing(1, 1, 0), closing(2, 1, 0)}, nil, []int{2}, 0},
		{"an earlier one", []api.Item{closing(1, 1, 5), closing(2, 1, 4), closing(3, 2, 5), closing(4, 2, 6)}, nil, []int{2, 3}, 6},
		{"the last one again", []api.Item{closing(1, 1, last), closing(2, 1, last)}, nil, []int{2}, last},
		{"by the day on which it came in", []api.Item{closing(9, 1, 5), closing(2, 2, 4)}, nil, []int{2}, 5},
		{"the last one alone", []api.Item{closing(1, 0, last)}, nil, nil, last},
	})
}

// P8.2: who has paid, or put down, less than it wants back gets nothing.
func TestTooMuchBack(t *testing.T) {
	paid := []api.Posting{posting(1, 5, 1, 8), posting(1, 5, 30, -8)}
	put := []api.Posting{posting(1, 5, 1, 8), posting(1, 5, 3, -8)}
	follow(t, []course{
		{"more than was paid", []api.Item{pay(1, 3, 5, 30, 8), refund(2, 3, 6, 30, 9)}, paid, []int{2}, -1},
		{"what was not paid", []api.Item{refund(2, 3, 6, 30, 1)}, nil, []int{2}, -1},
		{"what was paid later", []api.Item{pay(1, 3, 5, 30, 8), refund(2, 2, 6, 30, 1)}, paid, []int{2}, -1},
		{"what another one has paid", []api.Item{pay(1, 3, 5, 30, 8), refund(2, 3, 6, 31, 1)}, paid, []int{2}, -1},
		{"what was paid as a bond", []api.Item{bond(1, 3, 5, 30, 8), refund(2, 3, 6, 30, 1)}, put, []int{2}, -1},
		{"what is not owed, since a bill is less", []api.Item{bill(1, 1, 5, 7, 30, 8), mend(2, 1, 7, 0), refund(3, 3, 6, 30, 1)},
			[]api.Posting{posting(1, 5, 30, 8), posting(1, 5, 2, -8), posting(2, 5, 30, -8), posting(2, 5, 2, 8)}, []int{3}, -1},
		{"all, and then one more", []api.Item{pay(1, 3, 5, 30, 8), refund(2, 3, 6, 30, 5), refund(3, 3, 6, 30, 4), refund(4, 3, 6, 30, 3), refund(5, 3, 6, 30, 1)},
			append(slices.Clone(paid), posting(2, 6, 30, 5), posting(2, 6, 1, -5), posting(4, 6, 30, 3), posting(4, 6, 1, -3)), []int{3, 5}, -1},
		{"what was paid in parts", []api.Item{pay(1, 3, 5, 30, 8), pay(2, 3, 5, 30, 2), refund(3, 3, 6, 30, 10)},
			append(slices.Clone(paid), posting(2, 5, 1, 2), posting(2, 5, 30, -2), posting(3, 6, 30, 10), posting(3, 6, 1, -10)), nil, -1},
		{"more than was put down", []api.Item{bond(1, 3, 5, 30, 8), free(2, 3, 6, 30, 9)}, put, []int{2}, -1},
		{"what was not put down", []api.Item{free(2, 3, 6, 30, 1)}, nil, []int{2}, -1},
		{"what was put down later", []api.Item{bond(1, 3, 5, 30, 8), free(2, 2, 6, 30, 1)}, put, []int{2}, -1},
		{"what another one has put down", []api.Item{bond(1, 3, 5, 30, 8), free(2, 3, 6, 31, 1)}, put, []int{2}, -1},
		{"what was paid, and is no bond", []api.Item{pay(1, 3, 5, 30, 8), free(2, 3, 6, 30, 1)}, paid, []int{2}, -1},
		{"all of it, and then one more", []api.Item{bond(1, 3, 5, 30, 8), free(2, 3, 6, 30, 5), free(3, 3, 6, 30, 4), free(4, 3, 6, 30, 3), free(5, 3, 6, 30, 1)},
			append(slices.Clone(put), posting(2, 6, 3, 5), posting(2, 6, 1, -5), posting(4, 6, 3, 3), posting(4, 6, 1, -3)), []int{3, 5}, -1},
		{"what was put down in parts", []api.Item{bond(1, 3, 5, 30, 8), bond(2, 3, 5, 30, 2), free(3, 3, 6, 30, 10)},
			append(slices.Clone(put), posting(2, 5, 1, 2), posting(2, 5, 3, -2), posting(3, 6, 3, 10), posting(3, 6, 1, -10)), nil, -1},
	})
}

// P8.2: what was refused is not paid, and not put down; and there is no such bill.
func TestRefusedBringsNothing(t *testing.T) {
	two := func(day, to, from int) []api.Posting {
		return []api.Posting{posting(1, day, to, 8), posting(1, day, from, -8)}
	}
	follow(t, []course{
		{"a payment when all is closed", []api.Item{closing(1, 1, last), pay(2, 1, 5, 30, 8), refund(3, 1, 5, 30, 8)}, nil, []int{2, 3}, last},
		{"a bond when all is closed", []api.Item{closing(1, 1, last), bond(2, 1, 5, 30, 8), free(3, 1, 5, 30, 8)}, nil, []int{2, 3}, last},
		{"a refund when all is closed", []api.Item{pay(1, 1, 5, 30, 8), closing(2, 1, last), refund(3, 1, 5, 30, 8)}, two(5, 1, 30), []int{3}, last},
		{"a bond back when all is closed", []api.Item{bond(1, 1, 5, 30, 8), closing(2, 1, last), free(3, 1, 5, 30, 8)}, two(5, 1, 3), []int{3}, last},
		{"for both reasons", []api.Item{bill(1, 1, 5, 7, 30, 8), closing(2, 1, last), bill(3, 2, 5, 7, 30, 8), mend(4, 2, 6, 1), refund(5, 2, 5, 30, 8), free(6, 2, 5, 30, 8), closing(7, 2, last)},
			two(5, 30, 2), []int{3, 4, 5, 6, 7}, last},
		{"IDs in order, not by days", []api.Item{bill(1, 1, 5, 7, 30, 8), mend(9, 2, 6, 1), mend(4, 3, 6, 1), mend(12, 1, 6, 1), mend(2, last, 6, 1)},
			two(5, 30, 2), []int{2, 4, 9, 12}, -1},
	})
}

// P8.2: all three of rolled items are what the words of the chapter say.
func TestPostingsByWords(t *testing.T) {
	kept, refused := map[int]int{}, map[int]int{}
	forItems(3000, 25, func(d *dice, l []api.Item, known int) {
		w := byWords(l, known)
		sameList(t, postingsOf(t, l, known), w.postings, l, known)
		sameList(t, refusedOf(t, l, known), w.refused, l, known)
		equal(t, closedOf(t, l, known), w.closed, l, known)
		for _, x := range w.kept {
			kept[x.Kind]++
		}
		for _, x := range l {
			if slices.Contains(w.refused, x.ID) {
				refused[x.Kind]++
			}
		}
	})
	enough(t, kept, 300, api.ItBill, api.ItMend, api.ItPay, api.ItRefund, api.ItBond, api.ItFree, api.ItClose)
	enough(t, refused, 50, api.ItBill, api.ItMend, api.ItPay, api.ItRefund, api.ItBond, api.ItFree, api.ItClose)
}

// P8.2: the same with as many items as can be.
func TestPostingsOfMany(t *testing.T) {
	equal(t, len(postingsOf(t, full(), last)), 120)
	sameList(t, postingsOf(t, full(), last), byWords(full(), last).postings)
	equal(t, len(refusedOf(t, full(), last)), 0)
	var refunds []api.Item
	for i := range api.MaxItems {
		refunds = append(refunds, refund(api.MaxID-i, 3, 3, 10, api.MaxPence))
	}
	equal(t, len(postingsOf(t, refunds, last)), 0)
	equal(t, len(refusedOf(t, refunds, last)), 60)
	forItems(300, 60, func(d *dice, l []api.Item, known int) {
		sameList(t, postingsOf(t, l, known), byWords(l, known).postings, l, known)
		sameList(t, refusedOf(t, l, known), byWords(l, known).refused, l, known)
	})
}

// P8.2: equal items count once.
func TestEqualItemsCountOnce(t *testing.T) {
	for _, x := range example() {
		l := append(example(), x, x)
		sameList(t, postingsOf(t, l, last), examplePostings(), x)
		sameList(t, refusedOf(t, l, last), []int{5}, x)
		equal(t, closedOf(t, l, last), 7, x)
	}
	equal(t, ledger.Check(append(example(), example()...)), api.OK)
}
