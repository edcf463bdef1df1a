package tariff_test

import (
	"slices"
	"testing"

	"kentledge/api"
	"kentledge/tariff"
)

// wrongEditions is a list with an error, and its index.
type wrongEditions struct {
	name string
	list []api.Edition
	want api.Errno
	at   int
}

// manyEditions are so many, one on each day.
func manyEditions(n int) []api.Edition {
	var l []api.Edition
	for i := range n {
		l = append(l, edition(100-i, i, rules(due("a", flat(i)))))
	}
	return l
}

func wrongEditionsList() []wrongEditions {
	long := rules(make([]api.Rule, api.MaxRules+1)...)
	bad := rules(most("A", 1))
	fine := example()
	list := []wrongEditions{
		{"21 editions", manyEditions(api.MaxEditions + 1), api.ErrLimit, -1},
		{"21 wrong editions", make([]api.Edition, api.MaxEditions+1), api.ErrLimit, -1},
		{"an ID twice", []api.Edition{edition(1, 1, fine), edition(2, 2, fine), edition(1, 3, fine)}, api.ErrTwice, 2},
		{"an ID and a day twice", []api.Edition{edition(1, 1, fine), edition(1, 1, fine)}, api.ErrTwice, 1},
		{"an ID twice, with a wrong tariff", []api.Edition{edition(1, 1, fine), edition(1, 2, bad)}, api.ErrTwice, 1},
		{"an ID twice, on no day", []api.Edition{edition(1, 1, fine), edition(1, -1, fine)}, api.ErrArg, 1},
		{"an ID twice, ahead of a wrong one", []api.Edition{edition(1, 1, fine), edition(1, 2, fine), edition(0, 3, fine)}, api.ErrTwice, 1},
		{"an ID twice, behind a wrong one", []api.Edition{edition(1, 1, fine), edition(0, 3, fine), edition(1, 5, fine)}, api.ErrArg, 1},
		{"a day twice", []api.Edition{edition(1, 1, fine), edition(2, 1, fine)}, api.ErrArg, 1},
		{"days the wrong way round", []api.Edition{edition(1, 7, fine), edition(2, 8, fine), edition(3, 7, fine)}, api.ErrArg, 2},
		{"a day twice, with too many rules", []api.Edition{edition(1, 1, fine), edition(2, 1, long)}, api.ErrArg, 1},
		{"too many rules", []api.Edition{edition(1, 1, fine), edition(2, 2, long)}, api.ErrLimit, 1},
		{"a rule that is not formed", []api.Edition{edition(1, 1, fine), edition(2, 2, bad)}, api.ErrForm, 1},
		{"a rule that is not formed, ahead of an ID twice", []api.Edition{edition(1, 1, bad), edition(1, 2, fine)}, api.ErrForm, 0},
		{"a wrong ID, with too many rules", []api.Edition{edition(0, 1, long)}, api.ErrArg, 0},
		{"a wrong day, with a rule that is not formed", []api.Edition{edition(1, api.MaxDay+1, bad)}, api.ErrArg, 0},
	}
	for _, n := range []int{0, -1, api.MaxID + 1, minInt, maxInt} {
		list = append(list, wrongEditions{"the ID", []api.Edition{edition(1, 1, fine), edition(n, 2, fine)}, api.ErrArg, 1})
	}
	for _, n := range []int{-1, api.MaxDay + 1, minInt, maxInt} {
		list = append(list, wrongEditions{"the day", []api.Edition{edition(1, n, fine), edition(2, 2, fine)}, api.ErrArg, 0}, wrongEditions{"the day", []api.Edition{edition(1, 2, fine), edition(2, n, fine)}, api.ErrArg, 1})
	}
	return list
}

// P7.7: editions that are right.
func TestCheckOfEditions(t *testing.T) {
	for i, l := range [][]api.Edition{
		nil, {}, editions(), manyEditions(api.MaxEditions),
		{edition(1, 0, api.Tariff{}), edition(api.MaxID, api.MaxDay, full())}, {edition(api.MaxID, 0, full()), edition(1, 1, full())},
	} {
		e, at := tariff.CheckEditions(l)
		equal(t, e, api.OK, i)
		equal(t, at, -1, i)
	}
}

// P7.7, R3: each error of editions, and their order.
func TestCheckOfWrongEditions(t *testing.T) {
	for _, x := range wrongEditionsList() {
		e, at := tariff.CheckEditions(x.list)
		equal(t, e, x.want, x.name)
		equal(t, at, x.at, x.name)
	}
}

// P7.7: an edition comes in its place, also as the first and as the last one.
func TestAdd(t *testing.T) {
	for day, place := range map[int]int{0: 0, 9: 0, 11: 1, 19: 1, 21: 2, api.MaxDay: 2} {
		more, e := tariff.Add(editions(), edition(3, day, rules(most("a", day))))
		good(t, e, day)
		sameEditions(t, more, slices.Insert(editions(), place, edition(3, day, rules(most("a", day)))), day)
	}
	more, e := tariff.Add(nil, edition(api.MaxID, 0, api.Tariff{}))
	good(t, e)
	sameEditions(t, more, []api.Edition{edition(api.MaxID, 0, api.Tariff{})})
	more, e = tariff.Add(manyEditions(19), edition(1, 500, full()))
	good(t, e)
	sameEditions(t, more, append(manyEditions(19), edition(1, 500, full())))
}

// P7.7, R3: the errors of Add, and their order.
func TestErrorsOfAdd(t *testing.T) {
	long, bad := rules(make([]api.Rule, api.MaxRules+1)...), rules(most("A", 1))
	is := func(l []api.Edition, x api.Edition, want api.Errno) {
		t.Helper()
		more, e := tariff.Add(l, x)
		equal(t, e, want, x)
		equal(t, len(more), 0)
	}
	for _, x := range wrongEditionsList() {
		is(x.list, edition(9, 9, example()), x.want)
		is(x.list, edition(1, 1, bad), x.want)
	}
	is(editions(), edition(1, 15, example()), api.ErrTwice)
	is(editions(), edition(2, 25, example()), api.ErrTwice)
	is(editions(), edition(3, 10, example()), api.ErrTwice)
	is(editions(), edition(3, 20, example()), api.ErrTwice)
	is(editions(), edition(1, -1, bad), api.ErrTwice)
	is(editions(), edition(0, 20, long), api.ErrTwice)
	is(editions(), edition(3, -1, example()), api.ErrArg)
	is(editions(), edition(3, minInt, example()), api.ErrArg)
	is(editions(), edition(3, api.MaxDay+1, example()), api.ErrArg)
	is(editions(), edition(0, 15, example()), api.ErrArg)
	is(editions(), edition(api.MaxID+1, 15, bad), api.ErrArg)
	is(editions(), edition(3, 15, bad), api.ErrForm)
	is(editions(), edition(3, 15, long), api.ErrLimit)
	is(nil, edition(0, 15, example()), api.ErrArg)
	is(manyEditions(api.MaxEditions), edition(1, 500, example()), api.ErrLimit)
	is(manyEditions(api.MaxEditions), edition(0, -1, bad), api.ErrLimit)
	is(manyEditions(api.MaxEditions), edition(100, 500, example()), api.ErrTwice)
	is(manyEditions(api.MaxEditions), edition(1, 19, example()), api.ErrTwice)
}

// P7.7: which edition is in force, at the days on which editions begin and around them.
func TestInForce(t *testing.T) {
	for day, id := range map[int]int{10: 1, 11: 1, 19: 1, 20: 2, 21: 2, api.MaxDay: 2} {
		x, e := tariff.InForce(editions(), day)
		good(t, e, day)
		sameEditions(t, []api.Edition{x}, editions()[id-1:id], day)
	}
	is := func(l []api.Edition, day int, want api.Errno) {
		t.Helper()
		x, e := tariff.InForce(l, day)
		equal(t, e, want, day)
		sameEditions(t, []api.Edition{x}, make([]api.Edition, 1), day)
	}
	is(editions(), 9, api.ErrNone)
	is(editions(), 0, api.ErrNone)
	is(nil, 5, api.ErrNone)
	for _, day := range []int{-1, api.MaxDay + 1, minInt, maxInt} {
		is(editions(), day, api.ErrArg)
		is(nil, day, api.ErrArg)
	}
	for _, x := range wrongEditionsList() {
		is(x.list, -1, x.want)
		is(x.list, 700, x.want)
	}
}

// P7.8: the bill of the tariff in force, and the errors in their order.
func TestDueOnDays(t *testing.T) {
	cargo := []api.Lot{lot("", 25)}
	for day, want := range map[int][]api.Charge{10: {{Due: "bond", Pence: 100}, {Due: "wharf", Pence: 12}}, 19: {{Due: "bond", Pence: 100}, {Due: "wharf", Pence: 12}}, 20: {{Due: "bond", Pence: 100}}} {
		l, e := tariff.Due(editions(), day, cargo)
		good(t, e, day)
		sameList(t, l, want, day)
	}
	wrong, many := []api.Lot{lot("A", 1)}, make([]api.Lot, api.MaxLots+1)
	is := func(l []api.Edition, day int, cargo []api.Lot, want api.Errno) {
		t.Helper()
		bill, e := tariff.Due(l, day, cargo)
		equal(t, e, want, day, cargo)
		equal(t, len(bill), 0, day, cargo)
	}
	for _, cargo := range [][]api.Lot{cargo, wrong, many} {
		for _, x := range wrongEditionsList() {
			is(x.list, -1, cargo, x.want)
		}
		is(editions(), -1, cargo, api.ErrArg)
		is(editions(), api.MaxDay+1, cargo, api.ErrArg)
		is(editions(), 9, cargo, api.ErrNone)
		is(nil, 9, cargo, api.ErrNone)
	}
	is(editions(), 10, wrong, api.ErrArg)
	is(editions(), 10, many, api.ErrLimit)
}

// P7.8: the first of the cheapest days, and the errors in their order.
func TestCheapest(t *testing.T) {
	is := func(l []api.Edition, days api.Span, day, sum int) {
		t.Helper()
		n, least, e := tariff.Cheapest(l, days, []api.Lot{lot("", 25)})
		good(t, e, days)
		equal(t, n, day, days)
		equal(t, least, sum, days)
	}
	is(editions(), span(0, 30), 20, 100)
	is(editions(), span(0, api.MaxDay), 20, 100)
	is(editions(), span(0, 19), 10, 112)
	is(editions(), span(0, 10), 10, 112)
	is(editions(), span(15, 19), 15, 112)
	is(editions(), span(19, 20), 20, 100)
	is(editions(), span(27, 30), 27, 100)
	is(editions(), span(api.MaxDay, api.MaxDay), api.MaxDay, 100)
	is([]api.Edition{edition(1, 5, rules(due("a", flat(3)))), edition(2, 7, rules(due("a", flat(4)))), edition(3, 9, rules(due("b", flat(3))))}, span(0, 20), 5, 3)
	is([]api.Edition{edition(1, 5, rules(due("a", flat(3)))), edition(2, 7, rules(due("a", flat(4)))), edition(3, 9, rules(due("b", flat(3))))}, span(7, 20), 9, 3)
	is([]api.Edition{edition(1, 5, rules(due("a", flat(3)))), edition(2, 7, api.Tariff{})}, span(0, 20), 7, 0)
	is([]api.Edition{edition(1, 0, api.Tariff{})}, span(0, 0), 0, 0)
}

// P7.8, R3: the errors of Cheapest.
func TestErrorsOfCheapest(t *testing.T) {
	fine, wrong, many := []api.Lot{lot("", 25)}, []api.Lot{lot("", -1)}, make([]api.Lot, api.MaxLots+1)
	is := func(l []api.Edition, days api.Span, cargo []api.Lot, want api.Errno) {
		t.Helper()
		day, sum, e := tariff.Cheapest(l, days, cargo)
		equal(t, e, want, days, cargo)
		equal(t, day, 0, days, cargo)
		equal(t, sum, 0, days, cargo)
	}
	for _, cargo := range [][]api.Lot{fine, wrong, many} {
		for _, x := range wrongEditionsList() {
			is(x.list, span(2, 1), cargo, x.want)
			is(x.list, span(0, 9), cargo, x.want)
		}
		for _, days := range []api.Span{span(2, 1), span(-1, 5), span(-1, -1), span(20, api.MaxDay+1), span(api.MaxDay+1, api.MaxDay+1), span(minInt, maxInt), span(maxInt, minInt), span(0, maxInt), span(minInt, 0), span(30, 20)} {
			is(editions(), days, cargo, api.ErrArg)
			is(nil, days, cargo, api.ErrArg)
		}
	}
	for _, l := range [][]api.Edition{nil, editions()} {
		is(l, span(0, 9), wrong, api.ErrArg)
		is(l, span(0, 9), many, api.ErrLimit)
		is(l, span(0, 9), fine, api.ErrNone)
	}
	is(editions(), span(0, 30), wrong, api.ErrArg)
	is(editions(), span(0, 30), many, api.ErrLimit)
	is(nil, span(0, api.MaxDay), nil, api.ErrNone)
}

// P7.7, P7.8: by the words of the chapter, day by day, for rolled editions.
func TestEditionsByDay(t *testing.T) {
	d := &dice{state: 3}
	met := map[api.Errno]int{}
	for range 500 {
		l, cargo := d.editions(), d.cargo()
		lo := d.between(0, 30)
		days := span(lo, lo+d.between(0, 20))
		best, least, want := 0, 0, api.ErrNone
		for day := days.Hi; day >= days.Lo; day-- {
			x, is := inForceByWords(l, day)
			got, e := tariff.InForce(l, day)
			sameEditions(t, []api.Edition{got}, []api.Edition{x}, l, day)
			equal(t, e == api.OK, is, l, day)
			bill, e := tariff.Due(l, day, cargo)
			equal(t, e == api.OK, is, l, day)
			sameList(t, bill, billByWords(x.Tariff, cargo), l, day)
			if sum := sumByWords(x.Tariff, cargo); is && (want != api.OK || sum <= least) {
				best, least, want = day, sum, api.OK
			}
		}
		day, sum, e := tariff.Cheapest(l, days, cargo)
		equal(t, e, want, l, days, cargo)
		equal(t, day, best, l, days, cargo)
		equal(t, sum, least, l, days, cargo)
		met[e]++
	}
	enough(t, met, 50, api.OK, api.ErrNone)
}

// inForceByWords is the edition with the greatest From that is at most a day.
func inForceByWords(l []api.Edition, day int) (api.Edition, bool) {
	best, is := api.Edition{}, false
	for _, x := range l {
		if x.From <= day && (!is || x.From > best.From) {
			best, is = x, true
		}
	}
	return best, is
}
