package arbiter_test

import (
	"maps"
	"slices"
	"testing"

	"kentledge/api"
	"kentledge/arbiter"
)

// clerk is an arbiter in a case, as the chapter tells of it.
type clerk struct {
	promised, voted, finding, opened int
	wishes                           []int
	list                             map[int]api.Letter // by From; nil if there is none
	round                            int                // of the list
	hasProposed                      bool
	votes                            map[[2]int]int // by arbiter and round
}

// clerks is a world by the words of the chapter.
type clerks struct {
	court api.Court
	of    map[[2]int]*clerk // by arbiter and case
	named map[int]bool
	post  map[int]api.Letter // those on their way
	sent  []api.Letter
}

func newClerks(c api.Court) *clerks {
	return &clerks{court: c, of: map[[2]int]*clerk{}, named: map[int]bool{}, post: map[int]api.Letter{}}
}

func (w *clerks) clerk(who, id int) *clerk {
	k := [2]int{who, id}
	if w.of[k] == nil {
		w.of[k] = &clerk{votes: map[[2]int]int{}}
	}
	return w.of[k]
}

func (w *clerks) send(x api.Letter) {
	x.ID = 1
	if n := len(w.sent); n > 0 {
		x.ID = w.sent[n-1].ID + 1
	}
	w.sent = append(w.sent, x)
	if len(w.post) != 200 {
		w.post[x.ID] = x
	}
}

func (w *clerks) sendToAll(x api.Letter) {
	for x.To = 0; x.To < w.court.Arbiters; x.To++ {
		w.send(x)
	}
}

// errorOf is the error that an act has.
func (w *clerks) errorOf(a api.Act) api.Errno {
	isArbiter := a.A >= 0 && a.A < w.court.Arbiters
	isCase := a.Case >= 1 && a.Case <= 1<<40
	isNew := !w.named[a.Case] && len(w.named) == 40
	_, isOnWay := w.post[a.N]
	switch a.Kind {
	case api.AcWish:
		if a.N != 0 || !isArbiter || !isCase || a.Finding < 0 || a.Finding > 1<<16 {
			return api.ErrArg
		}
		if isNew {
			return api.ErrLimit
		}
		if len(w.clerk(a.A, a.Case).wishes) > 0 {
			return api.ErrTwice
		}
		return api.OK
	case api.AcOpen:
		if a.N != 0 || a.Finding != 0 || !isArbiter || !isCase {
			return api.ErrArg
		}
		if isNew || w.nextRound(a.A, a.Case) > 1<<20 {
			return api.ErrLimit
		}
		return api.OK
	case api.AcDeliver, api.AcLose, api.AcDouble:
		if a.A != 0 || a.Case != 0 || a.Finding != 0 {
			return api.ErrArg
		}
		if !isOnWay {
			return api.ErrNone
		}
		if a.Kind == api.AcDouble && len(w.post) == 200 {
			return api.ErrLimit
		}
		return api.OK
	case api.AcForget:
		if a.Case != 0 || a.Finding != 0 || a.N != 0 || !isArbiter {
			return api.ErrArg
		}
		return api.OK
	}
	return api.ErrArg
}

func (w *clerks) nextRound(who, id int) int {
	k := w.clerk(who, id)
	round := 1
	for round <= k.promised || round <= k.opened || chairOf(w.court, round) != who {
		round++
	}
	return round
}

// do does an act.
func (w *clerks) do(a api.Act) api.Errno {
	if e := w.errorOf(a); e != api.OK {
		return e
	}
	switch a.Kind {
	case api.AcWish:
		w.named[a.Case] = true
		k := w.clerk(a.A, a.Case)
		k.wishes = append(k.wishes, a.Finding)
		w.perhapsPropose(a.A, a.Case)
	case api.AcOpen:
		w.named[a.Case] = true
		k := w.clerk(a.A, a.Case)
		k.opened = w.nextRound(a.A, a.Case)
		k.list, k.round, k.hasProposed = map[int]api.Letter{}, k.opened, false
		w.sendToAll(api.Letter{Case: a.Case, Kind: api.LePrepare, Round: k.opened, From: a.A})
	case api.AcForget:
		for key, k := range w.of {
			if key[0] == a.A {
				k.list = nil
			}
		}
	case api.AcDouble:
		w.send(w.post[a.N])
	default:
		x := w.post[a.N]
		delete(w.post, a.N)
		if a.Kind == api.AcDeliver {
			w.read(x)
		}
	}
	return api.OK
}

// read lets a clerk read a letter.
func (w *clerks) read(x api.Letter) {
	k := w.clerk(x.To, x.Case)
	mine := api.Letter{Case: x.Case, Round: x.Round, From: x.To}
	switch x.Kind {
	case api.LePrepare:
		if x.Round >= k.promised && x.Round > k.voted {
			k.promised = x.Round
			mine.Kind, mine.Voted, mine.Finding, mine.To = api.LePromise, k.voted, k.finding, x.From
			w.send(mine)
		}
	case api.LePromise:
		if _, is := k.list[x.From]; k.list != nil && k.round == x.Round && !is {
			k.list[x.From] = x
			w.perhapsPropose(x.To, x.Case)
		}
	case api.LePropose:
		if x.Round >= k.promised {
			k.promised, k.voted, k.finding = x.Round, x.Round, x.Finding
			mine.Kind, mine.Finding = api.LeVote, x.Finding
			w.sendToAll(mine)
		}
	case api.LeVote:
		k.votes[[2]int{x.From, x.Round}] = x.Finding
	}
}

// perhapsPropose proposes if there is a list with promises of a majority, and something to propose.
func (w *clerks) perhapsPropose(who, id int) {
	k := w.clerk(who, id)
	if k.list == nil || k.hasProposed || !isMost(w.court, len(k.list)) {
		return
	}
	voted, finding := 0, -1
	if len(k.wishes) > 0 {
		finding = k.wishes[0]
	}
	for _, x := range k.list {
		if x.Voted > voted {
			voted, finding = x.Voted, x.Finding
		}
	}
	if finding >= 0 {
		k.hasProposed = true
		w.sendToAll(api.Letter{Case: id, Kind: api.LePropose, Round: k.round, From: who, Finding: finding})
	}
}

// known is the rulings that an arbiter knows.
func (w *clerks) known(who int) []api.Ruling {
	var l []api.Ruling
	for _, id := range slices.Sorted(maps.Keys(w.named)) {
		for round := range w.lastRound(id) + 1 {
			of := map[int]int{}
			for from := range w.court.Arbiters {
				if finding, is := w.clerk(who, id).votes[[2]int{from, round}]; is {
					of[finding]++
				}
			}
			for finding, n := range of {
				if isMost(w.court, n) {
					l = append(l, ruling(id, round, finding))
				}
			}
		}
	}
	return l
}

// lastRound is the greatest one that was begun in a case.
func (w *clerks) lastRound(id int) int {
	last := 0
	for who := range w.court.Arbiters {
		last = max(last, w.clerk(who, id).opened)
	}
	return last
}

// view is all that is told of a world.
type view struct {
	letters, sent []api.Letter
	cases         []int
	books         map[[2]int]api.Note
	wishes        map[[2]int]int
	known         [][]api.Ruling
}

// seen is what a world tells.
func seen(w *arbiter.World) view {
	v := view{letters: w.Letters(), sent: w.Sent(), cases: w.Cases(), books: map[[2]int]api.Note{}, wishes: map[[2]int]int{}}
	for who := range 7 {
		for _, id := range v.cases {
			key := [2]int{who, id}
			if book := w.Book(who, id); book != (api.Note{}) {
				v.books[key] = book
			}
			if finding, is := w.Wish(who, id); is {
				v.wishes[key] = finding
			}
		}
		v.known = append(v.known, w.Known(who))
	}
	return v
}

// view is what it should tell.
func (w *clerks) view() view {
	v := view{cases: slices.Sorted(maps.Keys(w.named)), sent: w.sent, books: map[[2]int]api.Note{}, wishes: map[[2]int]int{}}
	for _, n := range slices.Sorted(maps.Keys(w.post)) {
		v.letters = append(v.letters, w.post[n])
	}
	for key, k := range w.of {
		if book := (api.Note{Promised: k.promised, Voted: k.voted, Finding: k.finding, Opened: k.opened}); book != (api.Note{}) {
			v.books[key] = book
		}
		if len(k.wishes) > 0 {
			v.wishes[key] = k.wishes[0]
		}
	}
	for who := range 7 {
		v.known = append(v.known, nil)
		if who < w.court.Arbiters {
			v.known[who] = w.known(who)
		}
	}
	return v
}

func sameWorld(t *testing.T, got, want view, about ...any) {
	t.Helper()
	sameList(t, got.letters, want.letters, about...)
	sameList(t, got.sent, want.sent, about...)
	sameList(t, got.cases, want.cases, about...)
	if !maps.Equal(got.books, want.books) {
		t.Fatal("books", got.books, "want", want.books, about)
	}
	if !maps.Equal(got.wishes, want.wishes) {
		t.Fatal("wishes", got.wishes, "want", want.wishes, about)
	}
	for who := range want.known {
		sameList(t, got.known[who], want.known[who], about...)
	}
}

// weather is how often things happen in a world that is rolled.
type weather struct {
	court                                     api.Court
	ids                                       []int
	deliver, lose, double, open, wish, forget int
	inOrder                                   bool
}

func (d *dice) weather() weather {
	w := weather{court: d.court(), ids: []int{4}, deliver: 60, lose: d.of(0, 1, 5, 15), double: d.of(0, 1, 5, 15), open: d.of(1, 3, 6, 20), wish: d.of(1, 3), forget: d.of(0, 1, 3), inOrder: d.one(3)}
	if d.one(3) {
		w.ids = []int{1, 4, 5, api.MaxID}
	}
	if d.one(8) {
		w.deliver = 5
	}
	return w
}

// act rolls an act that may be done in a world with these letters on their way.
func (d *dice) act(w weather, post []api.Letter) api.Act {
	who, id := d.between(0, w.court.Arbiters-1), d.of(w.ids...)
	n := 0
	if len(post) > 0 {
		n = post[d.between(0, len(post)-1)].ID
		if w.inOrder {
			n = post[0].ID
		}
	}
	roll := d.between(1, w.deliver+w.lose+w.double+w.open+w.wish+w.forget)
	for _, x := range []struct {
		times int
		act   api.Act
	}{
		{w.deliver, deliver(n)}, {w.lose, lose(n)}, {w.double, double(n)}, {w.open, begin(who, id)}, {w.wish, wish(who, id, d.between(0, 3))},
	} {
		if roll <= x.times {
			return x.act
		}
		roll -= x.times
	}
	return forget(who)
}

// wrongAct rolls an act that is mostly wrong.
func (d *dice) wrongAct(w weather, post []api.Letter) api.Act {
	a := d.act(w, post)
	n := d.of(-1, 0, 1, 3, 4, 7, 8, 1<<16+1, 1<<40+1, minInt, maxInt)
	*[]*int{&a.Kind, &a.A, &a.Case, &a.Finding, &a.N}[d.between(0, 4)] = n
	return a
}

// P9.8, P9.9: worlds that are rolled, act by act by the words of the chapter.
func TestWorldsAtRandom(t *testing.T) {
	d := &dice{}
	met := map[api.Errno]int{}
	kinds := map[int]int{}
	known, full := 0, 0
	for range 150 {
		how := d.weather()
		w, c := newWorld(t, how.court), newClerks(how.court)
		for i := range 250 {
			a := d.act(how, w.Letters())
			if d.one(12) {
				a = d.wrongAct(how, w.Letters())
			}
			want := c.do(a)
			equal(t, w.Do(a), want, how, a)
			met[want]++
			if want == api.OK {
				kinds[a.Kind]++
			}
			if len(w.Letters()) == 200 {
				full++
			}
			if i%10 == 0 || i > 200 {
				sameWorld(t, seen(w), c.view(), how, a)
			}
		}
		for who := range how.court.Arbiters {
			known += len(w.Known(who))
		}
	}
	enough(t, met, 100, api.OK, api.ErrArg, api.ErrNone, api.ErrTwice)
	enough(t, met, 10, api.ErrLimit)
	enough(t, kinds, 200, api.AcWish, api.AcOpen, api.AcDeliver, api.AcLose, api.AcDouble, api.AcForget)
	equal(t, known > 200, true, known)
	equal(t, full > 200, true, full)
}
