package port_test

import (
	"slices"
	"testing"

	"kentledge/api"
	"kentledge/port"
)

// P10.6: a port at its beginning.
func TestNewPort(t *testing.T) {
	for _, w := range wrongs() {
		p, e := port.New(changed(w.make))
		equal(t, e, w.want, w.name)
		equal(t, p == nil, true, w.name)
	}
	for _, s := range []api.Setting{{}, example(), full()} {
		p := newPort(t, s)
		equal(t, p.Tick(), 0)
		for _, a := range append(slices.Clone(s.Wharves), 0, -1, 77, minInt, maxInt) {
			equal(t, len(p.Known(a)), 0)
			for _, b := range append(slices.Clone(s.Wharves), 0, -1, 77, minInt, maxInt) {
				equal(t, len(p.Book(a, b)), 0)
			}
		}
	}
}

// P10.7: time goes on.
func TestTime(t *testing.T) {
	p := newPort(t, full())
	for _, n := range []int{0, 0, 5, 5, 7, 1 << 20} {
		alike(t, p.Do(tick(n)), api.Reply{}, n)
		equal(t, p.Tick(), n)
		for _, bad := range []int{n - 1, 0, 6} {
			if bad >= 0 && bad < n {
				alike(t, p.Do(tick(bad)), failed(api.ErrArg), bad)
			}
		}
		alike(t, p.Do(tick(-1)), failed(api.ErrForm))
		alike(t, p.Do(tick(1<<20+1)), failed(api.ErrForm))
		equal(t, p.Tick(), n)
	}
}

// P10.7: lines are told one behind the other, up to 60, also behind torn ones.
func TestTell(t *testing.T) {
	p := newPort(t, full())
	var lines []string
	for i := range 60 {
		x := back(i + 1)
		alike(t, p.Do(tell(2, x)), api.Reply{N: i + 1})
		lines = append(lines, textOf(t, x))
		if i == 30 {
			does(t, p, tear(2, 2, 3, 0, 0), tear(2, 2, 0, 8, 3))
			clear(lines[24:])
			lines[7] = "x 8"
		}
		sameList(t, p.Book(2, 2), lines)
		equal(t, len(p.Book(5, 2))+len(p.Book(2, 5))+len(p.Book(5, 5)), 0)
	}
	for range 3 {
		alike(t, p.Do(tell(2, two())), failed(api.ErrLimit))
	}
	sameList(t, p.Book(2, 2), lines)
	alike(t, p.Do(tell(5, two())), api.Reply{N: 1})
	does(t, p, tear(2, 2, 7, 0, 0))
	alike(t, p.Do(tell(2, two())), failed(api.ErrLimit)) // torn lines are lines
}

// P10.6, P10.7: what is known, and since when.
func TestKnown(t *testing.T) {
	p := newPort(t, full())
	does(t, p, tell(9, back(1)), tick(3), tell(2, back(2)), tell(9, back(3)), tick(5), tell(5, back(4)), tell(5, back(5)))
	sameList(t, p.Known(9), []api.Entered{entered(9, 1, 0, back(1)), entered(9, 2, 3, back(3))})
	does(t, p, meet(9, 2))
	sameList(t, p.Known(9), []api.Entered{entered(2, 1, 5, back(2)), entered(9, 1, 0, back(1)), entered(9, 2, 3, back(3))})
	sameList(t, p.Known(2), []api.Entered{entered(2, 1, 3, back(2)), entered(9, 1, 5, back(1)), entered(9, 2, 5, back(3))})
	does(t, p, tick(8), meet(5, 2))
	sameList(t, p.Known(5), []api.Entered{entered(5, 1, 5, back(4)), entered(5, 2, 5, back(5)), entered(2, 1, 8, back(2)), entered(9, 1, 8, back(1)), entered(9, 2, 8, back(3))})
	does(t, p, tear(5, 9, 0, 1, 3), tear(5, 5, 0, 2, 4))
	sameList(t, p.Known(5), []api.Entered{entered(5, 1, 5, back(4)), entered(5, 2, 5, back(5)), entered(2, 1, 8, back(2))})
	sameList(t, p.Book(5, 9), []string{"x 1", ""})
	does(t, p, tick(9), meet(9, 5))
	sameList(t, p.Known(5), []api.Entered{entered(5, 1, 5, back(4)), entered(5, 2, 5, back(5)), entered(2, 1, 8, back(2)), entered(9, 1, 9, back(1)), entered(9, 2, 9, back(3))})
	sameList(t, p.Known(9), []api.Entered{entered(5, 1, 9, back(4)), entered(5, 2, 9, back(5)), entered(2, 1, 5, back(2)), entered(9, 1, 0, back(1)), entered(9, 2, 3, back(3))})
	equal(t, len(p.Known(0))+len(p.Known(4)), 0)
}

// P10.7: wharves tell each other what the other one cannot read, both ways, also of books of others, and with empty lines ahead.
func TestMeet(t *testing.T) {
	p := newPort(t, full())
	does(t, p, tell(5, back(1)), tell(5, back(2)), tell(5, back(3)), tear(5, 5, 0, 3, 0))
	alike(t, p.Do(meet(5, 2)), api.Reply{N: 2})
	sameList(t, p.Book(2, 5), []string{"x 1;", "x 2;"}) // the third line cannot be read
	does(t, p, tell(5, back(4)), tear(2, 5, 0, 1, 2))
	sameList(t, p.Book(2, 5), []string{"x ", ""})
	alike(t, p.Do(meet(2, 5)), api.Reply{N: 3})
	sameList(t, p.Book(2, 5), []string{"x 1;", "x 2;", "", "x 4;"})
	does(t, p, tear(5, 5, 0, 0, 0))
	alike(t, p.Do(meet(9, 5)), api.Reply{})
	equal(t, len(p.Book(9, 5)), 0)
	alike(t, p.Do(meet(9, 2)), api.Reply{N: 3})
	sameList(t, p.Book(9, 5), []string{"x 1;", "x 2;", "", "x 4;"})
	does(t, p, tear(2, 5, 0, 2, 200), tell(2, back(7)))
	alike(t, p.Do(meet(9, 2)), api.Reply{N: 2})
	alike(t, p.Do(meet(9, 2)), api.Reply{})
	alike(t, p.Do(meet(2, 9)), api.Reply{})
	alike(t, p.Do(meet(5, 9)), api.Reply{N: 4}) // also the lines of its own book
	sameList(t, p.Book(5, 5), []string{"x 1;", "x 2;", "", "x 4;"})
	sameList(t, p.Book(5, 2), []string{"x 7;"})
	alike(t, p.Do(tell(5, back(9))), api.Reply{N: 5})
}

// P10.7: a copy can know a line of a book whose earlier lines it does not have.
func TestEmptyLinesAhead(t *testing.T) {
	p := newPort(t, full())
	for i := range 20 {
		does(t, p, tell(5, back(i+1)))
	}
	does(t, p, tear(5, 5, 0, 0, 0), tear(5, 5, 1, 0, 0), tick(4))
	alike(t, p.Do(meet(2, 5)), api.Reply{N: 4})
	want := append(make([]string, 16), "x 17;", "x 18;", "x 19;", "x 20;")
	sameList(t, p.Book(2, 5), want)
	sameList(t, p.Known(2), []api.Entered{entered(5, 17, 4, back(17)), entered(5, 18, 4, back(18)), entered(5, 19, 4, back(19)), entered(5, 20, 4, back(20))})
	alike(t, p.Do(tear(2, 5, 1, 8, 9)), api.Reply{})
	alike(t, p.Do(tear(2, 5, 2, 5, 9)), failed(api.ErrArg))
	alike(t, p.Do(tear(2, 5, 3, 0, 0)), failed(api.ErrArg))
}

// P10.7: only the copy of one wharf is torn.
func TestTear(t *testing.T) {
	p := newPort(t, full())
	alike(t, p.Do(tear(5, 5, 0, 0, 0)), failed(api.ErrArg))
	does(t, p, tell(5, back(1)), tell(5, back(2)), meet(5, 2), meet(5, 9))
	alike(t, p.Do(tear(2, 5, 0, 3, 0)), failed(api.ErrArg))
	alike(t, p.Do(tear(2, 5, 1, 0, 0)), failed(api.ErrArg))
	alike(t, p.Do(tear(2, 2, 0, 0, 0)), failed(api.ErrArg))
	alike(t, p.Do(tear(2, 5, 0, 1, 2)), api.Reply{})
	sameList(t, p.Book(2, 5), []string{"x ", ""})
	sameList(t, p.Book(5, 5), []string{"x 1;", "x 2;"})
	sameList(t, p.Book(9, 5), []string{"x 1;", "x 2;"})
}

// P10.7: ErrForm, then ErrNone if a wharf that is named is none.
func TestWharvesThatAreNone(t *testing.T) {
	p := newPort(t, full())
	does(t, p, tell(5, two()))
	for _, c := range kindsOfCommands() {
		if c.A == 0 {
			continue
		}
		for _, bad := range []int{4, 1, 1 << 40} {
			other := c
			other.A = bad
			alike(t, p.Do(other), failed(api.ErrNone), other)
			if c.B != 0 {
				other = c
				other.B = bad
				alike(t, p.Do(other), failed(api.ErrNone), other)
			}
			other.Minutes.Hi = -1
			alike(t, p.Do(other), failed(api.ErrForm), other)
		}
	}
	alike(t, p.Do(tear(4, 5, 0, 9, 0)), failed(api.ErrForm))
	alike(t, p.Do(tear(4, 5, 0, 8, 0)), failed(api.ErrNone))
	alike(t, p.Do(tear(5, 4, 0, 8, 0)), failed(api.ErrNone))
	alike(t, p.Do(tear(5, 5, 0, 8, 0)), failed(api.ErrArg))
	alike(t, p.Do(meet(4, 4)), failed(api.ErrForm))
	alike(t, p.Do(api.Command{}), failed(api.ErrForm))
	none := newPort(t, api.Setting{})
	alike(t, none.Do(tell(1, two())), failed(api.ErrNone))
	alike(t, none.Do(tick(5)), api.Reply{})
	alike(t, none.Do(askDue(5)), failed(api.ErrNone))
}

// P10.7: questions are asked of what the wharf knows.
func TestQuestionsToWharves(t *testing.T) {
	p := newPort(t, full())
	none := failed(api.ErrNone)
	is := func(lo, hi int) api.Reply { return api.Reply{Span: span(lo, hi), IDs: []int{7, 7}} }
	does(t, p, tell(5, two()), tell(2, seven()))
	alike(t, p.Do(askMass(5, 9, 1, 1)), none)
	alike(t, p.Do(askMass(2, 9, 1, 1)), is(699, 709))
	alike(t, p.Do(askMass(9, 9, 1, 1)), none)
	does(t, p, tick(4), meet(9, 2))
	alike(t, p.Do(askMass(9, 3, 1, 1)), none) // at 3 it did not know it
	alike(t, p.Do(askMass(9, 4, 1, 1)), is(699, 709))
	alike(t, p.Do(askMass(2, 3, 1, 1)), is(699, 709))
	does(t, p, tick(6), meet(9, 5))
	alike(t, p.Do(askMass(9, 5, 1, 1)), is(699, 709))
	alike(t, p.Do(askMass(9, 6, 1, 1)), is(700, 705))
	alike(t, p.Do(askMass(9, 1<<20, 1, 1)), is(700, 705))
	alike(t, p.Do(askMass(5, 5, 1, 1)), none)
	alike(t, p.Do(askMass(5, 6, 1, 1)), is(700, 705))
	does(t, p, tear(9, 5, 0, 0, 0))
	alike(t, p.Do(askMass(9, 6, 1, 1)), is(699, 709))
	equal(t, p.Do(askDue(35, api.Lot{Mass: 20})).Charges[1].Pence, 5)
}
