package ledger_test

import (
	"slices"
	"sort"
	"testing"

	"kentledge/api"
	"kentledge/ledger"
)

// field is a field of an item, and the numbers that it can have.
type field struct {
	name   string
	at     func(x *api.Item) *int
	lo, hi int
}

func idField() field {
	return field{"ID", func(x *api.Item) *int { return &x.ID }, 1, 1 << 40}
}

func knownField() field {
	return field{"Known", func(x *api.Item) *int { return &x.Known }, 0, 728}
}

func dayField(hi int) field {
	return field{"Day", func(x *api.Item) *int { return &x.Day }, 0, hi}
}

func billField(lo, hi int) field {
	return field{"Bill", func(x *api.Item) *int { return &x.Bill }, lo, hi}
}

func accountField(lo, hi int) field {
	return field{"Account", func(x *api.Item) *int { return &x.Account }, lo, hi}
}

func amountField(lo, hi int) field {
	return field{"Amount", func(x *api.Item) *int { return &x.Amount }, lo, hi}
}

// form is an item of a kind, and all its fields but the kind.
type form struct {
	item   api.Item
	fields []field
}

func forms() []form {
	all := []form{
		{bill(1, 5, 4, 7, 20, 100), []field{dayField(728), billField(1, 1<<40), accountField(10, 1<<40), amountField(0, 1<<24)}},
		{mend(1, 5, 7, 100), []field{dayField(0), billField(1, 1<<40), accountField(0, 0), amountField(0, 1<<24)}},
		{closing(1, 5, 4), []field{dayField(728), billField(0, 0), accountField(0, 0), amountField(0, 0)}},
	}
	for _, x := range []api.Item{pay(1, 5, 4, 20, 100), refund(1, 5, 4, 20, 100), bond(1, 5, 4, 20, 100), free(1, 5, 4, 20, 100)} {
		all = append(all, form{x, []field{dayField(728), billField(0, 0), accountField(10, 1<<40), amountField(1, 1<<24)}})
	}
	for i := range all {
		all[i].fields = append(all[i].fields, idField(), knownField())
	}
	return all
}

// with is an item with another number in a field.
func with(x api.Item, f field, n int) api.Item {
	*f.at(&x) = n
	return x
}

// P8.1: an item is formed exactly if each field is what its kind asks for.
func TestFormed(t *testing.T) {
	for _, x := range forms() {
		equal(t, ledger.Check([]api.Item{x.item}), api.OK, x.item)
		for _, f := range x.fields {
			for _, n := range []int{f.lo, f.hi, (f.lo + f.hi) / 2, min(f.lo+1, f.hi), max(f.hi-1, f.lo)} {
				y := with(x.item, f, n)
				equal(t, ledger.Check([]api.Item{y}), api.OK, y)
			}
			for _, n := range []int{f.lo - 1, f.hi + 1, minInt, maxInt, -f.hi - 1, f.hi + 20, -7} {
				y := with(x.item, f, n)
				equal(t, ledger.Check([]api.Item{y}), api.ErrArg, f.name, y)
			}
		}
	}
}

// P8.1: there are no other kinds, and accounts of the port are not those of others.
func TestNotFormed(t *testing.T) {
	for _, kind := range []int{0, 8, -1, 9, 1 << 32, minInt, maxInt} {
		for _, x := range forms() {
			x.item.Kind = kind
			equal(t, ledger.Check([]api.Item{x.item}), api.ErrArg, x.item)
		}
		equal(t, ledger.Check([]api.Item{{ID: 1, Kind: kind}}), api.ErrArg, kind)
	}
	for _, account := range []int{api.AcCash, api.AcDues, api.AcBonds, 4, 9} {
		for _, x := range forms() {
			x.item.Account = account
			equal(t, ledger.Check([]api.Item{x.item}), api.ErrArg, x.item)
		}
	}
	for _, x := range forms() {
		for _, y := range forms() { // what one kind needs, another one must not have
			changed := x.item
			changed.Kind = y.item.Kind
			isFormed := !slices.ContainsFunc(y.fields, func(f field) bool { n := *f.at(&changed); return n < f.lo || n > f.hi })
			equal(t, ledger.Check([]api.Item{changed}) == api.OK, isFormed, changed)
		}
	}
	equal(t, ledger.Check([]api.Item{{}}), api.ErrArg)
}

// P8.1: no more than 60 items, whatever they are.
func TestTooManyItems(t *testing.T) {
	equal(t, len(full()), 60)
	equal(t, ledger.Check(full()), api.OK)
	equal(t, ledger.Check(nil), api.OK)
	equal(t, ledger.Check([]api.Item{}), api.OK)
	for _, more := range [][]api.Item{{full()[0]}, {{}}, {pay(61, 0, 0, 10, 1)}, {pay(1, 0, 0, 10, 2)}, full()} {
		equal(t, ledger.Check(append(full(), more...)), api.ErrLimit, more)
		equal(t, ledger.Check(append(slices.Clone(more), full()...)), api.ErrLimit, more)
	}
	equal(t, ledger.Check(slices.Repeat(full()[:1], 60)), api.OK)
	equal(t, ledger.Check(slices.Repeat(full()[:1], 61)), api.ErrLimit)
}

// P8.1: an ID stands for one item only; equal items may stand there often.
func TestSameIDs(t *testing.T) {
	for _, x := range forms() {
		others := []api.Item{pay(8, 1, 1, 10, 1), mend(9, 1, 1, 1)}
		equal(t, ledger.Check(append([]api.Item{x.item, x.item}, others...)), api.OK, x.item)
		equal(t, ledger.Check(append(others, x.item, others[0], x.item, others[1])), api.OK, x.item)
		for _, f := range x.fields {
			if f.lo == f.hi || f.name == "ID" {
				continue
			}
			y := with(x.item, f, f.hi)
			equal(t, ledger.Check([]api.Item{x.item, y}), api.ErrTwice, x.item, y)
			equal(t, ledger.Check([]api.Item{y, x.item}), api.ErrTwice, x.item, y)
			equal(t, ledger.Check([]api.Item{x.item, others[0], others[1], x.item, y, y}), api.ErrTwice, x.item, y)
		}
	}
	x := pay(1, 5, 4, 20, 100)
	for _, y := range []api.Item{refund(1, 5, 4, 20, 100), bond(1, 5, 4, 20, 100), free(1, 5, 4, 20, 100)} {
		equal(t, ledger.Check([]api.Item{x, y}), api.ErrTwice, y)
	}
	x.ID = 2
	equal(t, ledger.Check([]api.Item{pay(1, 5, 4, 20, 100), x}), api.OK)
}

// P8.1, R3: all errors of an item come before those of the next one, and ErrArg before ErrTwice.
func TestOrderOfErrors(t *testing.T) {
	x, other, bad := pay(1, 5, 4, 20, 100), pay(1, 5, 4, 20, 101), pay(2, 5, 4, 20, 0)
	badTwice := pay(1, 5, 4, 20, 0)
	for _, c := range []struct {
		l    []api.Item
		want api.Errno
	}{
		{[]api.Item{x, other, bad}, api.ErrTwice},
		{[]api.Item{x, bad, other}, api.ErrArg},
		{[]api.Item{bad, x, other}, api.ErrArg},
		{[]api.Item{x, badTwice}, api.ErrArg},
		{[]api.Item{badTwice, x}, api.ErrArg},
		{[]api.Item{x, badTwice, other}, api.ErrArg},
		{[]api.Item{x, other, badTwice}, api.ErrTwice},
		{[]api.Item{x, x, other}, api.ErrTwice},
		{[]api.Item{bad, bad}, api.ErrArg},
	} {
		equal(t, ledger.Check(c.l), c.want, c.l)
	}
	long := append(full()[:59], other)
	equal(t, ledger.Check(long), api.ErrTwice)
	long[58] = bad
	equal(t, ledger.Check(long), api.ErrArg)
	long[59] = bad
	equal(t, ledger.Check(long), api.ErrArg)
}

// P8.1: the order in which items came in is by Known, and of the same day by ID; nothing else matters.
func TestSorted(t *testing.T) {
	want := []api.Item{
		pay(9, 0, 700, 30, 5), bill(2, 1, 9, 9, 90, 9), pay(3, 1, 0, 10, 1), closing(7, 1, 0),
		mend(1, 2, 1, 1), pay(8, 2, 5, 20, 100), pay(api.MaxID, 2, 5, 20, 100), pay(4, last, 0, 10, 1),
	}
	d := &dice{}
	for range 200 {
		l := shuffled(d, append(slices.Clone(want), want[d.between(0, 7)], want[d.between(0, 7)]))
		sameList(t, sortedOf(t, l), want, l)
	}
	for _, l := range [][]api.Item{nil, {}} {
		equal(t, len(sortedOf(t, l)), 0)
	}
	sameList(t, sortedOf(t, slices.Repeat(want[:1], 60)), want[:1])
	turned := []api.Item{example()[5], example()[3], example()[0], example()[4], example()[2], example()[1], example()[0]}
	sameList(t, sortedOf(t, turned), example())
}

// P8.1: the same of rolled items: each one of them is there, and only once, and all are in order.
func TestSortedIsAll(t *testing.T) {
	forItems(2000, 60, func(d *dice, l []api.Item, _ int) {
		got := sortedOf(t, l)
		for i, x := range got {
			equal(t, slices.Contains(l, x), true, l)
			if i > 0 {
				equal(t, before(got[i-1], x), true, l)
			}
		}
		for _, x := range l {
			equal(t, slices.Contains(got, x), true, l)
		}
	})
}

// before tells whether an item came in ahead of another one.
func before(x, y api.Item) bool {
	return x.Known < y.Known || x.Known == y.Known && x.ID < y.ID
}

// P8.1: Merge is Sorted of both lists together.
func TestMerge(t *testing.T) {
	l := example()
	for a := range len(l) + 1 {
		for b := range len(l) + 1 {
			got := fine[[]api.Item](t, a, b)(ledger.Merge(l[:a], l[b:]))
			want := slices.Clone(l)
			if b > a {
				want = append(slices.Clone(l[:a]), l[b:]...)
			}
			sameList(t, got, want, a, b)
		}
	}
	forItems(2000, 30, func(d *dice, l []api.Item, _ int) {
		cut, again := d.between(0, len(l)), d.between(0, len(l))
		got := fine[[]api.Item](t, l)(ledger.Merge(l[:cut], l[min(cut, again):]))
		sort.Slice(l, func(i, j int) bool { return before(l[i], l[j]) })
		sameList(t, got, slices.Compact(l))
	})
	sameList(t, fine[[]api.Item](t)(ledger.Merge(nil, nil)), nil)
}

// P8.1, R3: the errors are those of a, then of b, then of both together.
func TestErrorsOfMerge(t *testing.T) {
	long, bad := append(full(), full()[0]), []api.Item{{}}
	twice := []api.Item{pay(1, 0, 0, 10, 1), pay(1, 0, 0, 10, 2)}
	lists := []struct {
		l []api.Item
		e api.Errno
	}{{long, api.ErrLimit}, {bad, api.ErrArg}, {twice, api.ErrTwice}}
	for _, a := range lists {
		for _, b := range lists {
			noItems(t, a.l, b.l, a.e)
		}
		noItems(t, a.l, example(), a.e)
		noItems(t, example(), a.l, a.e)
		noItems(t, full(), a.l, a.e)
		noItems(t, a.l, full(), a.e)
		noItems(t, nil, a.l, a.e)
		noItems(t, a.l, nil, a.e)
	}
	noItems(t, full(), []api.Item{pay(61, 0, 0, 10, 1)}, api.ErrLimit)
	noItems(t, full(), full()[:1], api.ErrLimit)
	noItems(t, full(), []api.Item{pay(1, 0, 0, 10, 7)}, api.ErrLimit)
	noItems(t, full()[:30], full()[29:], api.ErrLimit)
	noItems(t, twice[:1], twice[1:], api.ErrTwice)
	noItems(t, full()[:59], []api.Item{pay(59, 0, 0, 10, 7)}, api.ErrTwice)
	sameList(t, fine[[]api.Item](t)(ledger.Merge(full()[:30], full()[30:])), sortedOf(t, full()))
	sameList(t, fine[[]api.Item](t)(ledger.Merge(full(), nil)), sortedOf(t, full()))
	sameList(t, fine[[]api.Item](t)(ledger.Merge(nil, full())), sortedOf(t, full()))
}

// noItems fails unless Merge returns an error, and nothing else.
func noItems(t *testing.T, a, b []api.Item, want api.Errno) {
	t.Helper()
	l, e := ledger.Merge(a, b)
	equal(t, e, want, a, b)
	equal(t, len(l), 0, a, b)
}
