package arbiter_test

import (
	"slices"
	"testing"

	"kentledge/api"
	"kentledge/arbiter"
)

func wish(who, id, finding int) api.Act {
	return api.Act{Kind: api.AcWish, A: who, Case: id, Finding: finding}
}

func begin(who, id int) api.Act { return api.Act{Kind: api.AcOpen, A: who, Case: id} }

func deliver(n int) api.Act { return api.Act{Kind: api.AcDeliver, N: n} }

func lose(n int) api.Act { return api.Act{Kind: api.AcLose, N: n} }

func double(n int) api.Act { return api.Act{Kind: api.AcDouble, N: n} }

func forget(who int) api.Act { return api.Act{Kind: api.AcForget, A: who} }

func newWorld(t *testing.T, c api.Court) *arbiter.World {
	t.Helper()
	w, e := arbiter.New(c)
	good(t, e, c)
	return w
}

// do does some acts, all of which are fine.
func do(t *testing.T, w *arbiter.World, acts ...api.Act) {
	t.Helper()
	for _, a := range acts {
		good(t, w.Do(a), a)
	}
}

// fails does an act that is wrong, and fails if it changes anything.
func fails(t *testing.T, w *arbiter.World, a api.Act, want api.Errno) {
	t.Helper()
	before := seen(w)
	equal(t, w.Do(a), want, a)
	sameWorld(t, seen(w), before, a)
}

// from delivers the letters with the IDs from one to another one.
func arrive(t *testing.T, w *arbiter.World, from, to int) {
	t.Helper()
	for n := from; n <= to; n++ {
		do(t, w, deliver(n))
	}
}

// onWay is the IDs of the letters on their way.
func onWay(w *arbiter.World) []int {
	var ids []int
	for _, x := range w.Letters() {
		ids = append(ids, x.ID)
	}
	return ids
}

// numbered is letters with IDs from one on.
func numbered(first int, l ...api.Letter) []api.Letter {
	for i := range l {
		l[i].ID = first + i
	}
	return l
}

// toAll is a letter to each arbiter.
func toAll(c api.Court, x api.Letter) []api.Letter {
	var l []api.Letter
	for to := range c.Arbiters {
		l = append(l, again(c, x, 0, to))
	}
	return l
}

// P9.7: a world has nothing at its beginning; the error is that of Check.
func TestNew(t *testing.T) {
	for n := 3; n <= 7; n++ {
		w := newWorld(t, court(n))
		equal(t, len(w.Letters())+len(w.Sent())+len(w.Cases()), 0)
		for who := range n {
			equal(t, w.Book(who, 4), api.Note{})
			equal(t, len(w.Known(who)), 0)
			finding, is := w.Wish(who, 4)
			equal(t, finding == 0 && !is, true)
		}
	}
	for _, c := range wrongCourts() {
		w, e := arbiter.New(c)
		equal(t, e, api.ErrArg, c)
		equal(t, w == nil, true, c)
	}
}

// P9.8, P9.9: the chapter's example.
func TestExample(t *testing.T) {
	w := newWorld(t, three)
	do(t, w, wish(0, 4, 7), begin(0, 4))
	equal(t, w.Book(0, 4), api.Note{Opened: 1})
	sameList(t, w.Letters(), numbered(1, toAll(three, prepare(three, 4, 1))...))
	arrive(t, w, 1, 3)
	sameList(t, w.Letters(), numbered(4, promise(three, 4, 1, 0, 0, 0), promise(three, 4, 1, 1, 0, 0), promise(three, 4, 1, 2, 0, 0)))
	arrive(t, w, 4, 5)
	sameList(t, w.Letters()[1:], numbered(7, toAll(three, propose(three, 4, 1, 7))...))
	arrive(t, w, 7, 8)
	sameList(t, w.Letters()[2:], numbered(10, append(toAll(three, vote(4, 1, 0, 7)), toAll(three, vote(4, 1, 1, 7))...)...))
	do(t, w, deliver(10))
	equal(t, len(w.Known(0)), 0)
	do(t, w, deliver(13))
	sameList(t, w.Known(0), []api.Ruling{ruling(4, 1, 7)})
	equal(t, len(w.Known(1))+len(w.Known(2)), 0)
	sameList(t, onWay(w), []int{6, 9, 11, 12, 14, 15})
	equal(t, len(w.Sent()), 15)
	equal(t, w.Book(0, 4), api.Note{Promised: 1, Voted: 1, Finding: 7, Opened: 1})
	equal(t, w.Book(1, 4), api.Note{Promised: 1, Voted: 1, Finding: 7})
	equal(t, w.Book(2, 4), api.Note{Promised: 1})
	sameList(t, rulingsOf(t, three, w.Sent()), w.Known(0))
}

// P9.8: a field that a kind does not have must be zero, and a kind be one of the six, whatever else is wrong.
func TestForeignFields(t *testing.T) {
	w := newWorld(t, three)
	do(t, w, begin(1, 4), wish(0, 5, 1))
	acts := []struct {
		act    api.Act
		fields []bool // A, Case, Finding, N
	}{
		{wish(1, 4, 7), []bool{true, true, true, false}},
		{begin(1, 4), []bool{true, true, false, false}},
		{deliver(1), []bool{false, false, false, true}},
		{lose(1), []bool{false, false, false, true}},
		{double(1), []bool{false, false, false, true}},
		{forget(1), []bool{true, false, false, false}},
	}
	for _, x := range acts {
		for field, has := range x.fields {
			for _, n := range []int{1, -1, 5, minInt, maxInt} {
				y := x.act
				*[]*int{&y.A, &y.Case, &y.Finding, &y.N}[field] = n
				if !has {
					fails(t, w, y, api.ErrArg)
				}
			}
		}
		for _, kind := range []int{0, -1, 7, 8, 99, minInt, maxInt} {
			y := x.act
			y.Kind = kind
			fails(t, w, y, api.ErrArg)
		}
	}
	fails(t, w, api.Act{}, api.ErrArg)
	fails(t, w, api.Act{Kind: api.AcDeliver, N: 99, A: 1}, api.ErrArg)
	fails(t, w, api.Act{Kind: api.AcWish, Case: 5, Finding: 1, N: 1}, api.ErrArg)
	for _, x := range acts {
		do(t, newWorldWith(t, begin(1, 4), wish(0, 5, 1)), x.act)
	}
}

// newWorldWith is a world of three in which something was done.
func newWorldWith(t *testing.T, acts ...api.Act) *arbiter.World {
	t.Helper()
	w := newWorld(t, three)
	do(t, w, acts...)
	return w
}

// P9.8: acts with what is no arbiter, no case, and no finding.
func TestErrorsOfActs(t *testing.T) {
	for n := 3; n <= 7; n++ {
		w := newWorld(t, court(n))
		do(t, w, wish(0, 4, 7))
		for _, who := range []int{-1, n, n + 1, minInt, maxInt} {
			fails(t, w, wish(who, 4, 7), api.ErrArg)
			fails(t, w, begin(who, 4), api.ErrArg)
			fails(t, w, forget(who), api.ErrArg)
		}
		for _, id := range []int{0, -1, -4, 1<<40 + 1, minInt, maxInt} {
			fails(t, w, wish(1, id, 7), api.ErrArg)
			fails(t, w, begin(1, id), api.ErrArg)
		}
		for _, finding := range []int{-1, 1<<16 + 1, minInt, maxInt} {
			fails(t, w, wish(1, 4, finding), api.ErrArg)
			fails(t, w, wish(0, 4, finding), api.ErrArg) // ahead of ErrTwice
		}
		fails(t, w, wish(0, 4, 7), api.ErrTwice)
		fails(t, w, wish(0, 4, 8), api.ErrTwice)
		do(t, w, wish(n-1, 4, 0), wish(0, 1<<40, 1<<16), wish(0, 1, 3), begin(n-1, 1<<40), begin(0, 1), forget(n-1), forget(0))
		fails(t, w, wish(n-1, 4, 0), api.ErrTwice)
		sameList(t, w.Cases(), []int{1, 4, 1 << 40})
	}
}

// P9.8: letters that are not on their way: never sent, arrived, lost.
func TestErrorsOfLetters(t *testing.T) {
	w := newWorldWith(t, begin(0, 4))
	none := func(ids ...int) {
		t.Helper()
		for _, n := range ids {
			fails(t, w, deliver(n), api.ErrNone)
			fails(t, w, lose(n), api.ErrNone)
			fails(t, w, double(n), api.ErrNone)
		}
	}
	none(0, -1, 4, 5, minInt, maxInt)
	do(t, w, lose(2), deliver(1))
	none(1, 2, 5)
	do(t, w, double(3))
	none(1, 2, 6)
	sameList(t, onWay(w), []int{3, 4, 5})
}

// P9.8: 40 cases can be named, by wishes and rounds; then new ones are ErrLimit, ahead of ErrTwice but behind ErrArg.
func TestLimitOfCases(t *testing.T) {
	w := newWorld(t, three)
	var want []int
	for id := 80; id > 0; id -= 2 {
		if id%4 == 0 {
			do(t, w, wish(1, id, 7))
		} else {
			do(t, w, begin(1, id))
		}
		want = append(want, id)
	}
	slices.Reverse(want)
	sameList(t, w.Cases(), want)
	for _, id := range []int{1, 3, 79, 81, 1 << 40} {
		fails(t, w, wish(1, id, 7), api.ErrLimit)
		fails(t, w, begin(1, id), api.ErrLimit)
		fails(t, w, wish(3, id, 7), api.ErrArg)
		fails(t, w, wish(1, id, -1), api.ErrArg)
		fails(t, w, begin(3, id), api.ErrArg)
		fails(t, w, api.Act{Kind: api.AcOpen, A: 1, Case: id, N: 1}, api.ErrArg)
	}
	fails(t, w, wish(1, 80, 7), api.ErrTwice)
	for _, id := range want {
		do(t, w, wish(2, id, 7), begin(2, id))
	}
	sameList(t, w.Cases(), want)
}

// P9.8: wrong acts name no case.
func TestWrongActsNameNothing(t *testing.T) {
	w := newWorld(t, three)
	for id := 1; id <= 50; id++ {
		fails(t, w, wish(3, id, 7), api.ErrArg)
		fails(t, w, wish(0, id, -1), api.ErrArg)
		fails(t, w, begin(-1, id), api.ErrArg)
	}
	for id := 51; id <= 90; id++ {
		do(t, w, wish(0, id, 7))
	}
	fails(t, w, wish(0, 1, 7), api.ErrLimit)
}

// P9.8: AcOpen takes the least round of the arbiter that is greater than what it has promised, and begun.
func TestOpen(t *testing.T) {
	for n := 3; n <= 7; n++ {
		for who := range n {
			w := newWorld(t, court(n))
			for i := range 5 {
				do(t, w, begin(who, 4))
				equal(t, w.Book(who, 4), api.Note{Opened: who + 1 + i*n})
				sameList(t, w.Letters(), w.Sent())
				want := numbered(i*n+1, toAll(court(n), prepare(court(n), 4, who+1+i*n))...)
				sameList(t, w.Letters()[i*n:], want)
			}
			do(t, w, begin(who, 5))
			equal(t, w.Book(who, 5), api.Note{Opened: who + 1})
		}
	}
	w := newWorldWith(t, begin(2, 4), begin(2, 4)) // the rounds 3 and 6, the letters 1 to 6
	do(t, w, deliver(4))
	equal(t, w.Book(0, 4), api.Note{Promised: 6})
	do(t, w, begin(0, 4))
	equal(t, w.Book(0, 4), api.Note{Promised: 6, Opened: 7})
	do(t, w, deliver(2))
	equal(t, w.Book(1, 4), api.Note{Promised: 3})
	do(t, w, begin(1, 4), begin(1, 4))
	equal(t, w.Book(1, 4), api.Note{Promised: 3, Opened: 8})
	do(t, w, deliver(6))
	equal(t, w.Book(2, 4), api.Note{Promised: 6, Opened: 6})
	do(t, w, begin(2, 4))
	equal(t, w.Book(2, 4), api.Note{Promised: 6, Opened: 9})
}

// P9.8: a LePrepare is promised to if no greater round was, and no vote given in it or a greater one; again if it is doubled.
func TestReadPrepare(t *testing.T) {
	w := newWorldWith(t, begin(0, 4), begin(1, 4), double(2), double(2), double(5)) // 1 to 3: round 1; 4 to 6: round 2; 7, 8: as 2; 9: as 5
	do(t, w, deliver(2))
	equal(t, w.Book(1, 4), api.Note{Promised: 1, Opened: 2})
	do(t, w, deliver(7)) // the letters 10 and 11 are promises
	sameList(t, w.Letters()[7:], numbered(10, promise(three, 4, 1, 1, 0, 0), promise(three, 4, 1, 1, 0, 0)))
	do(t, w, deliver(5))
	equal(t, w.Book(1, 4), api.Note{Promised: 2, Opened: 2})
	do(t, w, deliver(8)) // a lesser round
	equal(t, w.Book(1, 4), api.Note{Promised: 2, Opened: 2})
	equal(t, len(w.Sent()), 12)
	equal(t, w.Sent()[11].To, 1)
	do(t, w, wish(0, 4, 7), deliver(1), deliver(10), deliver(13)) // 13 is the promise of 0; then 14 to 16 propose
	equal(t, w.Book(2, 4), api.Note{})
	do(t, w, double(3), deliver(3), deliver(16))
	equal(t, w.Book(2, 4), api.Note{Promised: 1, Voted: 1, Finding: 7})
	n := len(w.Sent())
	do(t, w, deliver(17)) // the doubled LePrepare of the round in which it has voted
	equal(t, len(w.Sent()), n)
	do(t, w, deliver(6))
	equal(t, w.Book(2, 4), api.Note{Promised: 2, Voted: 1, Finding: 7})
	sameList(t, w.Sent()[n:], numbered(n+1, promise(three, 4, 2, 2, 1, 7)))
}

// P9.8: a chair proposes as soon as a majority has promised, once, its wish if it is not bound.
func TestPropose(t *testing.T) {
	for n := 3; n <= 7; n++ {
		c := court(n)
		w := newWorld(t, c)
		do(t, w, wish(0, 4, 7), begin(0, 4))
		arrive(t, w, 1, n)
		for i := range n {
			do(t, w, deliver(n+1+i))
			want := 2 * n
			if 2*(i+1) > n {
				want = 3 * n
			}
			equal(t, len(w.Sent()), want, n, i)
		}
		sameList(t, w.Letters(), numbered(2*n+1, toAll(c, propose(c, 4, 1, 7))...))
	}
}

// P9.8: promises of another round, of a round that was not begun, or twice of an arbiter are not counted.
func TestReadPromise(t *testing.T) {
	w := newWorldWith(t, wish(0, 4, 7), begin(0, 4), deliver(2), deliver(3), double(4), double(4)) // 4 and 5 are promises of 1 and 2, 6 and 7 as 4
	do(t, w, deliver(4), deliver(6), deliver(7))
	equal(t, len(w.Sent()), 7)
	do(t, w, deliver(5))
	equal(t, len(w.Sent()), 10)
	w = newWorldWith(t, wish(0, 4, 7), begin(0, 4), deliver(2), deliver(3), begin(0, 4)) // 6 to 8: the round 4
	do(t, w, deliver(4), deliver(5))
	equal(t, len(w.Sent()), 8)
	do(t, w, deliver(7), deliver(8), deliver(9), deliver(10))
	sameList(t, w.Sent()[10:], numbered(11, toAll(three, propose(three, 4, 4, 7))...))
	w = newWorldWith(t, wish(0, 4, 7), wish(0, 5, 8), begin(0, 4), begin(0, 5)) // 1 to 3 of the case 4, 4 to 6 of 5
	arrive(t, w, 1, 6)
	do(t, w, deliver(7), deliver(10))
	equal(t, len(w.Sent()), 12)
	do(t, w, deliver(11))
	sameList(t, w.Sent()[12:], numbered(13, toAll(three, propose(three, 5, 1, 8))...))
	do(t, w, deliver(9))
	sameList(t, w.Sent()[15:], numbered(16, toAll(three, propose(three, 4, 1, 7))...))
}

// P9.8: without a wish, nothing is proposed until there is one, and then once.
func TestProposeWithLateWish(t *testing.T) {
	w := newWorldWith(t, begin(0, 4))
	arrive(t, w, 1, 5)
	do(t, w, double(6))
	equal(t, len(w.Sent()), 7)
	do(t, w, wish(0, 5, 9), wish(1, 4, 9))
	equal(t, len(w.Sent()), 7)
	do(t, w, wish(0, 4, 0))
	sameList(t, w.Sent()[7:], numbered(8, toAll(three, propose(three, 4, 1, 0))...))
	do(t, w, deliver(6), deliver(7))
	equal(t, len(w.Sent()), 10)
	w = newWorldWith(t, begin(0, 4), deliver(1), deliver(4), wish(0, 4, 6)) // one promise only
	equal(t, len(w.Sent()), 4)
	do(t, w, deliver(2), deliver(5))
	sameList(t, w.Sent()[5:], numbered(6, toAll(three, propose(three, 4, 1, 6))...))
}

// P9.8: a third promise binds a chair that has no wish, and had a majority already.
func TestProposeWhenBoundLate(t *testing.T) {
	w := newWorldWith(t, wish(0, 4, 7), begin(0, 4))
	arrive(t, w, 1, 5)
	do(t, w, deliver(7)) // 0 votes for 7
	do(t, w, begin(1, 4))
	prepares := len(w.Sent()) - 2
	arrive(t, w, prepares, prepares+2)
	promises := prepares + 3
	sameList(t, w.Sent()[promises-1:], numbered(promises, promise(three, 4, 2, 0, 1, 7), promise(three, 4, 2, 1, 0, 0), promise(three, 4, 2, 2, 0, 0)))
	do(t, w, deliver(promises+1), deliver(promises+2))
	equal(t, len(w.Sent()), promises+2)
	do(t, w, deliver(promises))
	sameList(t, w.Sent()[promises+2:], numbered(promises+3, toAll(three, propose(three, 4, 2, 7))...))
}

// P9.8: a chair that is bound does not propose its wish.
func TestProposeWhenBound(t *testing.T) {
	w := newWorldWith(t, wish(0, 4, 7), begin(0, 4))
	arrive(t, w, 1, 5)
	do(t, w, deliver(7), wish(1, 4, 8), begin(1, 4))
	prepares := len(w.Sent()) - 2
	arrive(t, w, prepares, prepares+4)
	sameList(t, w.Sent()[prepares+5:], numbered(prepares+6, toAll(three, propose(three, 4, 2, 7))...))
}

// P9.8: what is forgotten is the chair's lists, in all cases, and nothing else.
func TestForget(t *testing.T) {
	w := newWorldWith(t, wish(0, 4, 7), begin(0, 4), begin(0, 5), begin(1, 4)) // 1 to 3, 4 to 6, 7 to 9
	arrive(t, w, 1, 6)                                                         // promises 10 to 15
	do(t, w, deliver(10))
	before := seen(w)
	do(t, w, forget(0))
	sameWorld(t, seen(w), before)
	do(t, w, deliver(11), deliver(12), deliver(13), deliver(14), deliver(15), wish(0, 5, 8))
	equal(t, len(w.Sent()), 15)
	do(t, w, begin(0, 4)) // the round 4: 16 to 18
	arrive(t, w, 16, 18)
	do(t, w, deliver(19), deliver(20))
	sameList(t, w.Sent()[21:], numbered(22, toAll(three, propose(three, 4, 4, 7))...))
	w = newWorldWith(t, wish(1, 4, 7), begin(1, 4), forget(0), forget(2)) // others forget
	arrive(t, w, 1, 5)
	equal(t, len(w.Sent()), 9)
	arrive(t, w, 7, 9)
	do(t, w, forget(0), forget(1), forget(2))
	arrive(t, w, 10, 18)
	for who := range 3 {
		sameList(t, w.Known(who), []api.Ruling{ruling(4, 2, 7)}) // votes are written down
	}
	w = newWorldWith(t, wish(1, 4, 7), begin(1, 4)) // between votes
	arrive(t, w, 1, 5)
	arrive(t, w, 7, 10)
	equal(t, len(w.Known(0)), 0)
	do(t, w, forget(0), deliver(13))
	sameList(t, w.Known(0), []api.Ruling{ruling(4, 2, 7)})
}

// P9.8: a LePropose is voted for unless a greater round was promised to; again if it is doubled.
func TestReadPropose(t *testing.T) {
	w := newWorldWith(t, wish(0, 4, 7), begin(0, 4))
	arrive(t, w, 1, 2)
	do(t, w, deliver(4), deliver(5), double(7), double(8), begin(1, 4)) // 6 to 8 propose, 9 and 10 as 7 and 8; 11 to 13: the round 2
	do(t, w, deliver(12))
	equal(t, w.Book(1, 4), api.Note{Promised: 2, Opened: 2})
	n := len(w.Sent())
	do(t, w, deliver(7), deliver(9))
	equal(t, len(w.Sent()), n)
	equal(t, w.Book(1, 4), api.Note{Promised: 2, Opened: 2})
	do(t, w, deliver(8)) // without having promised
	equal(t, w.Book(2, 4), api.Note{Promised: 1, Voted: 1, Finding: 7})
	do(t, w, deliver(10))
	equal(t, w.Book(2, 4), api.Note{Promised: 1, Voted: 1, Finding: 7})
	sameList(t, w.Sent()[n:], numbered(n+1, append(toAll(three, vote(4, 1, 2, 7)), toAll(three, vote(4, 1, 2, 7))...)...))
	do(t, w, deliver(6))
	equal(t, w.Book(0, 4), api.Note{Promised: 1, Voted: 1, Finding: 7, Opened: 1})
}

// P9.8: votes count once of each arbiter, and by their rounds and cases.
func TestReadVote(t *testing.T) {
	w := newWorldWith(t, wish(0, 4, 7), wish(0, 5, 7), begin(0, 4), begin(0, 5)) // 1 to 6
	arrive(t, w, 1, 12)                                                          // promises 7 to 12; 13 to 18 propose
	do(t, w, deliver(13), deliver(17))                                           // 19 to 21: of 0 in the case 4; 22 to 24: of 1 in the case 5
	do(t, w, double(19), double(19))                                             // 25 and 26
	do(t, w, deliver(19), deliver(22), deliver(25), deliver(26))
	equal(t, len(w.Known(0)), 0)
	do(t, w, deliver(14)) // 27 to 29: of 1 in the case 4
	do(t, w, deliver(27))
	sameList(t, w.Known(0), []api.Ruling{ruling(4, 1, 7)})
	equal(t, len(w.Known(1)), 0)
	do(t, w, deliver(16), deliver(30))
	sameList(t, w.Known(0), []api.Ruling{ruling(4, 1, 7), ruling(5, 1, 7)})
	do(t, w, deliver(20), deliver(28))
	sameList(t, w.Known(1), []api.Ruling{ruling(4, 1, 7)})
}

// P9.8: rulings are known in each round in which votes have come; in order.
func TestKnownInOrder(t *testing.T) {
	w := newWorld(t, three)
	var want []api.Ruling
	for _, id := range []int{9, 4, 1 << 40} {
		do(t, w, wish(2, id, id%5))
		for i := range 3 {
			do(t, w, begin(2, id))
			for len(w.Letters()) > 0 {
				do(t, w, deliver(w.Letters()[0].ID))
			}
			want = append(want, ruling(id, 3+3*i, id%5))
		}
	}
	want = slices.Concat(want[3:6], want[:3], want[6:])
	for who := range 3 {
		sameList(t, w.Known(who), want)
	}
	sameList(t, rulingsOf(t, three, w.Sent()), want)
}

// P9.8: of more than 200 letters on their way the later ones are lost, but have IDs, and were sent.
func TestLimitOfPost(t *testing.T) {
	w := newWorld(t, three)
	for range 66 {
		do(t, w, begin(0, 4))
	}
	equal(t, len(w.Letters()), 198)
	do(t, w, double(1))
	equal(t, len(w.Letters()), 199)
	do(t, w, begin(1, 4)) // 200 to 202, of which the first one has room
	equal(t, len(w.Letters()), 200)
	equal(t, len(w.Sent()), 202)
	sameList(t, w.Sent()[199:], numbered(200, toAll(three, prepare(three, 4, 2))...))
	sameList(t, onWay(w)[197:], []int{198, 199, 200})
	for _, n := range []int{1, 200} {
		fails(t, w, double(n), api.ErrLimit)
	}
	for _, n := range []int{0, 201, 202, 203} {
		fails(t, w, double(n), api.ErrNone) // ahead of ErrLimit
		fails(t, w, deliver(n), api.ErrNone)
		fails(t, w, lose(n), api.ErrNone)
	}
	do(t, w, deliver(200)) // the promise has the room that this one had
	sameList(t, onWay(w)[197:], []int{198, 199, 203})
	do(t, w, begin(2, 5)) // all lost
	equal(t, w.Book(2, 5), api.Note{Opened: 3})
	equal(t, len(w.Sent()), 206)
	equal(t, len(w.Letters()), 200)
	do(t, w, lose(7), double(203))
	sameList(t, onWay(w)[197:], []int{199, 203, 207})
	do(t, w, lose(8), lose(9), begin(2, 5))
	sameList(t, onWay(w)[195:], []int{199, 203, 207, 208, 209})
	equal(t, len(w.Sent()), 210)
}

// P9.8: what is lost for want of room when a chair proposes is not proposed again.
func TestLostForWantOfRoom(t *testing.T) {
	w := newWorldWith(t, wish(0, 4, 7), begin(0, 4))
	arrive(t, w, 1, 4) // 5 and 6 are promises
	for len(w.Letters()) < 200 {
		do(t, w, double(5))
	}
	do(t, w, deliver(5))
	n := len(w.Sent())
	sameList(t, w.Sent()[n-3:], numbered(n-2, toAll(three, propose(three, 4, 1, 7))...))
	equal(t, onWay(w)[199], n-2)
	do(t, w, deliver(6))
	equal(t, len(w.Sent()), n)
}

// P9.8: there is no round behind the last one; that is ErrLimit, and changes nothing.
func TestLimitOfRounds(t *testing.T) {
	c := court(7)
	w := newWorld(t, c)
	last := chairOf(c, 1<<20)
	for range 1 << 20 / 7 {
		good(t, w.Do(begin(last, 4)))
	}
	equal(t, w.Book(last, 4).Opened, 1<<20-7)
	loseAll(t, w)
	do(t, w, begin(last, 4))
	equal(t, w.Book(last, 4).Opened, 1<<20)
	l := w.Letters()
	noMore := func(who int) { // a whole view of so many letters would take long
		t.Helper()
		book, post := w.Book(who, 4), w.Letters()
		equal(t, w.Do(begin(who, 4)), api.ErrLimit, who)
		equal(t, w.Book(who, 4), book, who)
		sameList(t, w.Letters(), post, who)
	}
	noMore(last)
	for who, x := range l {
		do(t, w, deliver(x.ID))
		noMore(who)
		equal(t, w.Book(who, 4).Promised, 1<<20)
	}
	do(t, w, begin(last, 5), wish(last, 4, 3))
	equal(t, w.Book(last, 5).Opened, last+1)
	for _, x := range w.Letters()[:7] {
		do(t, w, deliver(x.ID))
	}
	sent := w.Sent()
	equal(t, sent[len(sent)-1], again(c, propose(c, 4, 1<<20, 3), len(sent), 6))
	equal(t, len(sent), 7*(1<<20/7+1+1+1+1)) // LePrepare of the case 4, its last round, the case 5, promises, and LePropose
}

// P9.9: nothing is told of what is no arbiter, and no case.
func TestWithoutSuch(t *testing.T) {
	w := newWorldWith(t, wish(0, 4, 7), begin(0, 4))
	for len(w.Letters()) > 0 {
		do(t, w, deliver(w.Letters()[0].ID))
	}
	for _, who := range []int{-1, 3, 4, 7, minInt, maxInt} {
		equal(t, len(w.Known(who)), 0, who)
		for _, id := range []int{4, 5, 0, -1, minInt, maxInt} {
			equal(t, w.Book(who, id), api.Note{}, who, id)
			finding, is := w.Wish(who, id)
			equal(t, finding == 0 && !is, true, who, id)
		}
	}
	for _, id := range []int{5, 1, 0, -4, 1<<40 + 4, minInt, maxInt} {
		equal(t, w.Book(0, id), api.Note{}, id)
		finding, is := w.Wish(0, id)
		equal(t, finding == 0 && !is, true, id)
	}
	finding, is := w.Wish(1, 4)
	equal(t, finding == 0 && !is, true)
	finding, is = w.Wish(0, 4)
	equal(t, finding == 7 && is, true)
	sameList(t, w.Cases(), []int{4})
}
