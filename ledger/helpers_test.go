package ledger_test

import (
	"slices"
	"sort"
	"testing"

	"kentledge/api"
	"kentledge/ledger"
)

const (
	minInt = -1 << 63
	maxInt = 1<<63 - 1
	last   = api.MaxDay
)

func span(lo, hi int) api.Span { return api.Span{Lo: lo, Hi: hi} }

func bill(id, known, day, number, account, amount int) api.Item {
	return api.Item{ID: id, Known: known, Kind: api.ItBill, Day: day, Bill: number, Account: account, Amount: amount}
}

func mend(id, known, number, amount int) api.Item {
	return api.Item{ID: id, Known: known, Kind: api.ItMend, Bill: number, Amount: amount}
}

func pay(id, known, day, account, amount int) api.Item {
	return api.Item{ID: id, Known: known, Kind: api.ItPay, Day: day, Account: account, Amount: amount}
}

func refund(id, known, day, account, amount int) api.Item {
	return api.Item{ID: id, Known: known, Kind: api.ItRefund, Day: day, Account: account, Amount: amount}
}

func bond(id, known, day, account, amount int) api.Item {
	return api.Item{ID: id, Known: known, Kind: api.ItBond, Day: day, Account: account, Amount: amount}
}

func free(id, known, day, account, amount int) api.Item {
	return api.Item{ID: id, Known: known, Kind: api.ItFree, Day: day, Account: account, Amount: amount}
}

func closing(id, known, day int) api.Item {
	return api.Item{ID: id, Known: known, Kind: api.ItClose, Day: day}
}

func posting(item, day, account, amount int) api.Posting {
	return api.Posting{Item: item, Day: day, Account: account, Amount: amount}
}

func balance(account, amount int) api.Balance { return api.Balance{Account: account, Amount: amount} }

// example is the items of the chapter's examples.
func example() []api.Item {
	return []api.Item{
		bill(1, 5, 4, 7, 20, 100),
		pay(2, 6, 6, 20, 60),
		closing(3, 8, 7),
		mend(4, 9, 7, 130),
		refund(5, 9, 9, 20, 70),
		bond(6, 9, 3, 21, 40),
	}
}

// examplePostings is what they bring.
func examplePostings() []api.Posting {
	return []api.Posting{
		posting(1, 4, 20, 100), posting(1, 4, 2, -100),
		posting(2, 6, 1, 60), posting(2, 6, 20, -60),
		posting(4, 8, 20, 30), posting(4, 8, 2, -30),
		posting(6, 8, 1, 40), posting(6, 8, 3, -40),
	}
}

// full is as many items as can be, all of which have postings.
func full() []api.Item {
	var l []api.Item
	for i := range api.MaxItems {
		l = append(l, pay(i+1, i%7, i%9, api.AcOther+i%5, i+1))
	}
	return l
}

// without is a list without one of its items.
func without(l []api.Item, id int) []api.Item {
	return slices.DeleteFunc(slices.Clone(l), func(x api.Item) bool { return x.ID == id })
}

// words is a ledger that is told by the words of the chapter.
type words struct {
	closed   int
	postings []api.Posting
	kept     []api.Item // those that are not refused, in the order in which they came in
	refused  []int
	history  map[int][]api.Change
	bills    map[int]api.Item
	paid     map[int]int
	put      map[int]int
}

// byWords goes through all items day by day, and each day by their IDs.
func byWords(l []api.Item, known int) *words {
	w := &words{closed: -1, history: map[int][]api.Change{}, bills: map[int]api.Item{}, paid: map[int]int{}, put: map[int]int{}}
	once := slices.Clone(l)
	sort.Slice(once, func(i, j int) bool { return once[i].ID < once[j].ID })
	for day := 0; day <= known; day++ {
		for i, x := range once {
			if x.Known != day || i > 0 && once[i-1].ID == x.ID {
				continue
			}
			if w.isRefused(x) {
				w.refused = append(w.refused, x.ID)
				continue
			}
			w.kept = append(w.kept, x)
			w.take(x)
		}
	}
	sort.Ints(w.refused)
	return w
}

// day is the one on which an item is posted.
func (w *words) day(x api.Item) int {
	day := x.Day
	if x.Kind == api.ItMend {
		day = w.bills[x.Bill].Day
	}
	if day <= w.closed {
		day = w.closed + 1
	}
	return day
}

func (w *words) isRefused(x api.Item) bool {
	if x.Kind == api.ItClose {
		return x.Day <= w.closed
	}
	if w.day(x) > 728 {
		return true
	}
	_, isBill := w.bills[x.Bill]
	switch x.Kind {
	case api.ItBill:
		return isBill
	case api.ItMend:
		return !isBill
	case api.ItRefund:
		return w.paid[x.Account] < x.Amount
	case api.ItFree:
		return w.put[x.Account] < x.Amount
	}
	return false
}

// take does what an item does that is not refused.
func (w *words) take(x api.Item) {
	day := w.day(x)
	post := func(amount, account, other int) {
		w.postings = append(w.postings, posting(x.ID, day, account, amount), posting(x.ID, day, other, -amount))
	}
	switch x.Kind {
	case api.ItBill:
		w.bills[x.Bill] = x
		w.history[x.Bill] = []api.Change{{Known: x.Known, Amount: x.Amount}}
		post(x.Amount, x.Account, 2)
	case api.ItMend:
		post(x.Amount-w.amount(x.Bill), w.bills[x.Bill].Account, 2)
		w.history[x.Bill] = append(w.history[x.Bill], api.Change{Known: x.Known, Amount: x.Amount})
	case api.ItPay:
		w.paid[x.Account] += x.Amount
		post(x.Amount, 1, x.Account)
	case api.ItRefund:
		w.paid[x.Account] -= x.Amount
		post(x.Amount, x.Account, 1)
	case api.ItBond:
		w.put[x.Account] += x.Amount
		post(x.Amount, 1, 3)
	case api.ItFree:
		w.put[x.Account] -= x.Amount
		post(x.Amount, 3, 1)
	case api.ItClose:
		w.closed = x.Day
	}
}

// amount is the one that a bill has; 0 if there is none.
func (w *words) amount(bill int) int {
	l := w.history[bill]
	if len(l) == 0 {
		return 0
	}
	return l[len(l)-1].Amount
}

// holds is the sum of the postings of an account on days up to one.
func (w *words) holds(account, day int) int {
	sum := 0
	for _, p := range w.postings {
		if p.Account == account && p.Day <= day {
			sum += p.Amount
		}
	}
	return sum
}

// balances is what all accounts hold that have postings on days up to one.
func (w *words) balances(day int) []api.Balance {
	var accounts []int
	for _, p := range w.postings {
		if p.Day <= day {
			accounts = append(accounts, p.Account)
		}
	}
	sort.Ints(accounts)
	var l []api.Balance
	for _, account := range slices.Compact(accounts) {
		l = append(l, balance(account, w.holds(account, day)))
	}
	return l
}

// statement is that of an account, gone through day by day.
func (w *words) statement(account int, days api.Span) api.Statement {
	s := api.Statement{Before: w.holds(account, days.Lo-1)}
	s.After = s.Before
	for day := days.Lo; day <= days.Hi; day++ {
		for _, p := range w.postings {
			if p.Account == account && p.Day == day {
				s.Lines = append(s.Lines, p)
				s.After += p.Amount
			}
		}
	}
	return s
}

// final is the items that are kept but for corrections, with the amounts of the bills.
func (w *words) final() []api.Item {
	var l []api.Item
	for _, x := range w.kept {
		if x.Kind == api.ItMend {
			continue
		}
		if x.Kind == api.ItBill {
			x.Amount = w.amount(x.Bill)
		}
		l = append(l, x)
	}
	return l
}

// dice rolls numbers, the same ones in each run.
type dice struct{ state uint64 }

func (d *dice) between(lo, hi int) int {
	d.state = d.state*6364136223846793005 + 1442695040888963407
	return lo + int((d.state>>33)%uint64(hi-lo+1))
}

// one tells whether a die of so many sides shows its first one.
func (d *dice) one(sides int) bool { return d.between(1, sides) == 1 }

// shuffled rolls an order of a list.
func shuffled[T any](d *dice, l []T) []T {
	l = slices.Clone(l)
	for i := range l {
		j := d.between(0, i)
		l[i], l[j] = l[j], l[i]
	}
	return l
}

// day rolls one of the first ten days of a season, or of its last ten if late.
func (d *dice) day(late bool) int {
	if late {
		return last - d.between(0, 9)
	}
	return d.between(0, 9)
}

func (d *dice) account() int { return []int{10, 10, 10, 11, 500, api.MaxID}[d.between(0, 5)] }

func (d *dice) bill() int { return []int{1, 1, 2, 3, api.MaxID}[d.between(0, 4)] }

func (d *dice) amount(lo int) int { return d.between(lo, 4) }

// item rolls an item; a closed day is rather rare, and early, or the last one.
func (d *dice) item(id int, late bool) api.Item {
	known, day := d.day(late), d.day(late)
	switch d.between(1, 14) {
	case 1, 2:
		return bill(id, known, day, d.bill(), d.account(), d.amount(0))
	case 3, 4, 5:
		return mend(id, known, d.bill(), d.amount(0))
	case 6, 7:
		return pay(id, known, day, d.account(), d.amount(1))
	case 8, 9:
		return refund(id, known, day, d.account(), d.amount(1))
	case 10, 11:
		return bond(id, known, day, d.account(), d.amount(1))
	case 12, 13:
		return free(id, known, day, d.account(), d.amount(1))
	}
	if late && d.one(2) {
		return closing(id, known, last)
	}
	return closing(id, known, min(day, d.day(late)))
}

// items rolls at most so many items, in any order, some of them twice.
func (d *dice) items(most int) []api.Item {
	late := d.one(4)
	var l []api.Item
	ids := map[int]bool{}
	for range d.between(0, most) {
		id := d.between(1, 100)
		if d.one(4) {
			id = api.MaxID - d.between(0, 9)
		}
		if ids[id] {
			x := l[d.between(0, len(l)-1)]
			l = append(l, x)
			continue
		}
		ids[id] = true
		l = append(l, d.item(id, late))
	}
	return shuffled(d, l)
}

// known rolls a day that matters to items, or any.
func (d *dice) known(l []api.Item) int {
	if len(l) == 0 || d.one(10) {
		return d.between(0, last)
	}
	x := l[d.between(0, len(l)-1)]
	days := []int{x.Known, x.Known, x.Known - 1, x.Known + 1, x.Day, last, last}
	return min(max(days[d.between(0, len(days)-1)], 0), last)
}

// days rolls a span of days.
func (d *dice) days(l []api.Item) api.Span {
	a, b := d.known(l), d.known(l)
	return span(min(a, b), max(a, b))
}

// forItems rolls ledgers, with days on which they are known.
func forItems(times, most int, what func(d *dice, l []api.Item, known int)) {
	d := &dice{state: uint64(most)}
	for range times {
		l := d.items(most)
		what(d, l, d.known(l))
	}
}

// someAccounts are those of the port, and those that rolled items name, or not.
func someAccounts() []int { return []int{1, 2, 3, 10, 11, 12, 500, api.MaxID} }

// good fails unless a call had no error.
func good(t *testing.T, e api.Errno, about ...any) {
	t.Helper()
	if e != api.OK {
		t.Fatal("error", e, about)
	}
}

func equal[T comparable](t *testing.T, got, want T, about ...any) {
	t.Helper()
	if got != want {
		t.Fatal("got", got, "want", want, about)
	}
}

func sameList[T comparable](t *testing.T, got, want []T, about ...any) {
	t.Helper()
	if !slices.Equal(got, want) {
		t.Fatal("got", got, "want", want, about)
	}
}

func sameStatement(t *testing.T, got, want api.Statement, about ...any) {
	t.Helper()
	equal(t, got.Before, want.Before, about...)
	sameList(t, got.Lines, want.Lines, about...)
	equal(t, got.After, want.After, about...)
}

func sameLeaf(t *testing.T, got, want api.Leaf, about ...any) {
	t.Helper()
	equal(t, got.Number, want.Number, about...)
	equal(t, got.Before, want.Before, about...)
	sameList(t, got.Lines, want.Lines, about...)
	equal(t, got.After, want.After, about...)
}

func sameLeaves(t *testing.T, got, want []api.Leaf, about ...any) {
	t.Helper()
	equal(t, len(got), len(want), about...)
	for i := range got {
		sameLeaf(t, got[i], want[i], about...)
	}
}

// enough fails unless each of some things was met so often: the rolled ledgers would say too little otherwise.
func enough[T comparable](t *testing.T, met map[T]int, times int, things ...T) {
	t.Helper()
	for _, x := range things {
		if met[x] < times {
			t.Fatal("met", met[x], "times:", x)
		}
	}
}

// fine returns a result, and fails if a call had an error.
func fine[T any](t *testing.T, about ...any) func(T, api.Errno) T {
	return func(x T, e api.Errno) T {
		t.Helper()
		good(t, e, about)
		return x
	}
}

func sortedOf(t *testing.T, l []api.Item) []api.Item {
	t.Helper()
	return fine[[]api.Item](t, l)(ledger.Sorted(l))
}

func postingsOf(t *testing.T, l []api.Item, known int) []api.Posting {
	t.Helper()
	return fine[[]api.Posting](t, l, known)(ledger.Postings(l, known))
}

func refusedOf(t *testing.T, l []api.Item, known int) []int {
	t.Helper()
	return fine[[]int](t, l, known)(ledger.Refused(l, known))
}

func closedOf(t *testing.T, l []api.Item, known int) int {
	t.Helper()
	return fine[int](t, l, known)(ledger.Closed(l, known))
}

func holdOf(t *testing.T, l []api.Item, account, day, known int) int {
	t.Helper()
	return fine[int](t, l, account, day, known)(ledger.Hold(l, account, day, known))
}

func balancesOf(t *testing.T, l []api.Item, day, known int) []api.Balance {
	t.Helper()
	return fine[[]api.Balance](t, l, day, known)(ledger.Balances(l, day, known))
}

func owingOf(t *testing.T, l []api.Item, day, known int) []api.Balance {
	t.Helper()
	return fine[[]api.Balance](t, l, day, known)(ledger.Owing(l, day, known))
}

func bondsOf(t *testing.T, l []api.Item, known int) []api.Balance {
	t.Helper()
	return fine[[]api.Balance](t, l, known)(ledger.Bonds(l, known))
}

func stateOf(t *testing.T, l []api.Item, account int, days api.Span, known int) api.Statement {
	t.Helper()
	return fine[api.Statement](t, l, account, days, known)(ledger.State(l, account, days, known))
}

func historyOf(t *testing.T, l []api.Item, bill int) []api.Change {
	t.Helper()
	return fine[[]api.Change](t, l, bill)(ledger.History(l, bill))
}

func movedOf(t *testing.T, l []api.Item, from, to int) []int {
	t.Helper()
	return fine[[]int](t, l, from, to)(ledger.Moved(l, from, to))
}

func finalOf(t *testing.T, l []api.Item, known int) []api.Item {
	t.Helper()
	return fine[[]api.Item](t, l, known)(ledger.Final(l, known))
}

func leavesOf(t *testing.T, l []api.Item, known int) []api.Leaf {
	t.Helper()
	return fine[[]api.Leaf](t, l, known)(ledger.Leaves(l, known))
}
