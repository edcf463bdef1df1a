package port_test

import (
	"slices"
	"testing"

	"kentledge/api"
	"kentledge/hull"
	"kentledge/port"
	"kentledge/tide"
)

// P10.14: the order of entries does not matter, nor do those that come to be known later, nor those that are taken back, with what takes them back.
func TestOneBook(t *testing.T) {
	d := &dice{}
	s := full()
	met := map[string]int{}
	for range 500 {
		l := d.entries(s, d.of(3, 8, 12))
		known := d.of(0, 3, 5, 9)
		stand, refused := foldOf(t, s, l, known)
		foldIs(t, s, shuffled(d, l), known, stand, refused)
		early := only(l, func(x api.Entered) bool { return x.Tick <= known })
		foldIs(t, s, early, known, stand, refused)
		foldIs(t, s, early, maxInt, stand, refused)
		left := only(early, func(x api.Entered) bool { return x.Entry.Kind != api.EnBack && !takenBack(l, x, known) })
		foldIs(t, s, left, known, stand, refused)
		met["later"] += len(l) - len(early)
		met["taken back"] += len(early) - len(left)
		if len(l) > 0 {
			more := l[d.between(0, len(l)-1)].Entry
			if more.Kind == api.EnBack {
				continue // what takes back does so even if it is taken back
			}
			foldIs(t, s, append(slices.Clone(l), entered(9, 40, known, more), entered(9, 41, known, back(40))), known, stand, refused)
		}
	}
	enough(t, met, 500, "later", "taken back")
}

// P10.14: what was known up to a minute, at a wharf of whose copies no page was torn, is later the same, and so is what stands by it.
func TestWhatWasKnown(t *testing.T) {
	d := &dice{}
	told := 0
	for range 40 {
		how := d.season()
		p := newPort(t, how.setting)
		whole := how.setting.Wharves[0]
		seen := map[int][]api.Entered{}
		for range 80 {
			c := d.act(how, p.Tick())
			if c.Kind == api.CoTear && c.A == whole {
				continue
			}
			if c.Kind == api.CoTick && c.N > p.Tick() && formedCommand(c) {
				seen[p.Tick()] = p.Known(whole)
			}
			p.Do(c)
			for minute, l := range seen {
				now := p.Known(whole)
				sameList(t, only(now, func(x api.Entered) bool { return x.Tick <= minute }), l)
				told += len(now) - len(l)
			}
		}
		for minute, l := range seen {
			stand, refused := foldOf(t, how.setting, l, minute)
			foldIs(t, how.setting, p.Known(whole), minute, stand, refused)
		}
	}
	equal(t, told > 1000, true, told)
}

// linesOf is what is known, whenever it came to be known.
func linesOf(l []api.Entered) []api.Entered {
	l = slices.Clone(l)
	for i := range l {
		l[i].Tick = 0
	}
	return l
}

// P10.15: wharves that have met know the same, which is what one of both knew; nobody knows a line that was not told; and once all have met, all know all.
func TestMeetings(t *testing.T) {
	d := &dice{}
	met := map[string]int{}
	for range 60 {
		how := d.season()
		p := newPort(t, how.setting)
		wharves := how.setting.Wharves
		told := map[api.Entered]bool{}
		for range 60 {
			c := d.act(how, p.Tick())
			r := p.Do(c)
			if c.Kind == api.CoTell && r.Err == api.OK {
				told[entered(c.A, r.N, 0, c.Entry)] = true
			}
			if c.Kind == api.CoMeet && r.Err == api.OK {
				sameList(t, linesOf(p.Known(c.A)), linesOf(p.Known(c.B)))
				met["met"]++
			}
			for _, w := range wharves {
				for _, x := range linesOf(p.Known(w)) {
					equal(t, told[x], true, x)
				}
			}
		}
		all := map[api.Entered]bool{}
		for _, w := range wharves {
			for _, x := range linesOf(p.Known(w)) {
				all[x] = true
			}
		}
		var pairs [][2]int
		for i, a := range wharves {
			for _, b := range wharves[:i] {
				pairs = append(pairs, [2]int{a, b})
			}
		}
		for _, pair := range shuffled(d, pairs) {
			does(t, p, meet(pair[0], pair[1]))
		}
		for _, w := range wharves {
			l := linesOf(p.Known(w))
			equal(t, len(l) == len(all) || len(wharves) == 1, true, len(l), len(all))
			for _, x := range l {
				equal(t, all[x], true, x)
			}
			met["known"] += len(l)
		}
	}
	enough(t, met, 300, "met", "known")
}

// truth is a course of loadings, movements and waters.
type truth struct {
	setting api.Setting
	off     map[int]int    // by how much hydrometers show too much
	loading map[int][2]int // by load, of the ship 1
	start   map[int]int    // of holders
	mass    map[int]int    // of movements
	level   int
}

// truth rolls one.
func (d *dice) truth() truth {
	s := full()
	s.Ships[1].Mean.Err = 1
	s.Ships[1].Meta.Err = 2
	k := truth{setting: s, off: map[int]int{1: d.between(-5, 5), 2: d.between(0, 3)}, loading: map[int][2]int{}, start: map[int]int{}, mass: map[int]int{}, level: d.between(-200, 200)}
	for load := 1; load <= 3; load++ {
		k.loading[load] = [2]int{d.between(50, 400), d.between(0, d.of(50, 400))}
	}
	for i := range s.Holders {
		h := &s.Holders[i]
		k.start[h.ID] = d.between(500, 600)
		h.Start = d.around(k.start[h.ID], 20)
		h.End = span(0, 2000)
		h.Booked = k.start[h.ID] + d.between(-20, 20)
	}
	for move := 1; move <= 6; move++ {
		k.mass[move] = d.between(0, 40)
	}
	return k
}

// around rolls a span with a number.
func (d *dice) around(n, wide int) api.Span {
	return span(n-d.between(0, wide), n+d.between(0, wide))
}

// weight is the mass of the ship 1 with a load.
func (k truth) weight(load int) int { return 400 + k.loading[load][0] + k.loading[load][1] }

// draught is the number next to the mean draught of the ship 1: her table is 500 times the mass by the density, less 100.
func (k truth) draught(load, dense int) int {
	return (1000*k.weight(load)+dense)/(2*dense) - 100
}

// entry rolls one that is true.
func (k truth) entry(d *dice) api.Entry {
	hydro := d.between(1, 2)
	switch d.between(1, 4) {
	case 1:
		dense := d.between(995, 1005)
		return glass(d.between(1, 20), hydro, dense, d.around(dense+k.off[hydro], 3))
	case 2:
		load, dense, trim := d.between(1, 3), d.between(998, 1004), d.between(-20, 20)
		x := api.Survey{ID: d.between(1, 40), Tick: d.between(0, 99), Sag: d.of(0, 2), Hydro: hydro, Shown: d.around(dense+k.off[hydro], 2)}
		for i := range x.Marks {
			x.Marks[i] = d.around(k.draught(load, dense)+trim*(1-i/2), d.of(0, 1, 4))
		}
		return surveyed(1, load, x)
	case 3:
		id := d.between(1, 6)
		return move(id, id%3+1, (id+1)%3+1, d.around(k.mass[id], 5))
	}
	w := k.setting.Water
	w.Level = 0
	tick := d.between(0, 3000)
	h, _ := tide.Height(w, tick)
	return gauge(d.between(1, 20), tick, d.around(k.level+h, 9))
}

// left is what a holder holds at the end, by the movements that stand.
func (k truth) left(stand api.Standing, id int) int {
	n := k.start[id]
	for _, m := range stand.Trade.Moves {
		if m.From == id {
			n -= k.mass[m.ID]
		}
		if m.To == id {
			n += k.mass[m.ID]
		}
	}
	return n
}

// has fails unless a number lies in a span.
func has(t *testing.T, s api.Span, n int, about ...any) {
	t.Helper()
	if n < s.Lo || n > s.Hi {
		t.Fatal(n, "is not in", s, about)
	}
}

// agrees fails unless a reply is true; it tells whether something was told.
func (k truth) agrees(t *testing.T, stand api.Standing, q api.Command, r api.Reply) bool {
	t.Helper()
	switch {
	case q.Kind == api.CoCourse:
		equal(t, r.Yes, true)
	case r.Err == api.ErrNone || r.Err == api.ErrLimit:
		return false
	}
	good(t, r.Err, q)
	switch q.Kind {
	case api.CoMass:
		has(t, r.Span, k.weight(q.Load), q)
	case api.CoTaken:
		has(t, r.Span, k.weight(q.Load)-k.weight(q.N), q)
	case api.CoFree:
		x := k.loading[q.Load]
		stiff, e := hull.Stiff(k.setting.Ships[1], x[:])
		good(t, e)
		a, e := hull.Afloat(k.setting.Ships[1], x[:])
		good(t, e)
		isFree := stiff.Num >= k.setting.Ships[1].Least*stiff.Den && max(a.Fore.Hi, a.Aft.Hi)+q.Keel <= q.Depth
		equal(t, isFree || !r.Yes, true, q)
		return r.Yes
	case api.CoHolds:
		has(t, span(r.Low.Value, r.High.Value), k.left(stand, q.N), q)
	case api.CoLacks:
		for _, h := range k.setting.Holders {
			lacks := k.left(stand, h.ID) < h.Booked
			equal(t, lacks || !slices.Contains(r.IDs, h.ID), true, h)
		}
		return len(r.IDs) > 0
	case api.CoWater:
		w := k.setting.Water
		w.Level = k.level
		for _, s := range r.Spans {
			_, _, e := tide.Lowest(w, s)
			good(t, e)
			low, _, _ := tide.Lowest(w, s)
			equal(t, low >= q.N, true, q, s)
		}
		return len(r.Spans) > 0
	}
	return true
}

// asks rolls a question about a truth.
func (k truth) asks(d *dice, known int) api.Command {
	a := d.of(k.setting.Wharves...)
	return []api.Command{
		askMass(a, known, 1, d.between(1, 3)), askTaken(a, known, 1, d.between(1, 3), d.between(1, 3)), askFree(a, known, 1, d.between(1, 3), d.between(300, 1500), d.between(0, 90)),
		askHolds(a, known, d.between(1, 3)), askCourse(a, known), askLacks(a, known), askWater(a, known, d.span(0, 500, 1500), d.between(-200, 250)),
	}[d.between(0, 6)]
}

// P10.17: in true courses all that is told is true: masses, what was taken, who is free, what is held and lacking, and the water.
func TestTrueCourses(t *testing.T) {
	d := &dice{}
	met := map[string]int{}
	for range 100 {
		k := d.truth()
		p := newPort(t, k.setting)
		wharves := k.setting.Wharves
		tears := d.one(2)
		for range 120 {
			switch a := d.of(wharves...); d.between(1, 8) {
			case 1:
				does(t, p, tick(p.Tick()+d.between(0, 3)))
			case 2:
				if b := d.of(wharves...); a != b {
					does(t, p, meet(a, b))
				}
			case 3:
				if tears { // otherwise false lines are told and taken back
					p.Do(tear(a, d.of(wharves...), 0, d.between(0, 8), d.between(0, 80)))
				} else if n := len(p.Book(a, a)); n < 58 {
					does(t, p, tell(a, d.told()), tell(a, back(n+1)))
				}
			case 4, 5, 6:
				p.Do(tell(a, k.entry(d)))
			default:
				q := k.asks(d, max(0, p.Tick()-d.of(0, 0, 2)))
				stand, _ := foldByWords(k.setting, p.Known(q.A), q.Known)
				if k.agrees(t, stand, q, p.Do(q)) {
					met[commandForms[q.Kind].word]++
				}
			}
		}
	}
	enough(t, met, 50, "mass", "taken", "free", "holds", "course", "lacks", "water")
}

// P10.16: what CheckAnswer accepts is what Answer returns, but for proofs.
func TestAcceptedReplies(t *testing.T) {
	d := &dice{}
	met := map[string]int{}
	for range 60 {
		s := d.flows()
		l := d.entries(s, 8)
		var questions []api.Command
		var replies []api.Reply
		for range 12 {
			q := d.question(s, 9)
			questions = append(questions, q)
			replies = append(replies, port.Answer(s, l, q))
		}
		for i, q := range questions {
			for j, r := range replies {
				isRight := port.CheckAnswer(s, l, q, r) == api.OK
				r.Low.Course, r.Low.Cut, r.High.Course, r.High.Cut = replies[i].Low.Course, replies[i].Low.Cut, replies[i].High.Course, replies[i].High.Cut
				r.Course, r.Cut = replies[i].Course, replies[i].Cut
				if isRight {
					alike(t, r, replies[i], q)
					met["right"]++
				} else {
					met["wrong"]++
				}
				equal(t, isRight || i != j, true, q)
			}
		}
	}
	enough(t, met, 700, "right", "wrong")
}
