package port_test

import (
	"slices"
	"testing"

	"kentledge/api"
	"kentledge/flow"
	"kentledge/port"
	"kentledge/survey"
	"kentledge/tide"
)

// takenBack tells whether an entry is taken back at a minute.
func takenBack(l []api.Entered, x api.Entered, known int) bool {
	for _, y := range l {
		if y.Entry.Kind == api.EnBack && y.Wharf == x.Wharf && y.Tick <= known && y.Entry.Line == x.Line {
			return true
		}
	}
	return false
}

// counted is the entries of a kind that count at a minute, by wharf and then line.
func counted(l []api.Entered, kind, known int) []api.Entered {
	some := only(l, func(x api.Entered) bool { return x.Entry.Kind == kind && x.Tick <= known && !takenBack(l, x, known) })
	slices.SortFunc(some, func(a, b api.Entered) int { return slices.Compare([]int{a.Wharf, a.Line}, []int{b.Wharf, b.Line}) })
	return some
}

// foldByWords is what stands by entries without an error, by the words of the chapter.
func foldByWords(s api.Setting, l []api.Entered, known int) (d api.Standing, refused []api.Entered) {
	d.Bulbs.Hydros = s.Hydros
	d.Trade.Holders = s.Holders
	for _, x := range counted(l, api.EnGlass, known) {
		b := api.Bulbs{Hydros: s.Hydros, Glasses: slices.Concat(d.Bulbs.Glasses, []api.Glass{x.Entry.Glass})}
		_, e := survey.Off(b, x.Entry.Glass.Hydro)
		if survey.CheckBulbs(b) == api.OK && e != api.ErrClash {
			d.Bulbs = b
		} else {
			refused = append(refused, x)
		}
	}
	for _, x := range counted(l, api.EnSurvey, known) {
		v := x.Entry.Survey
		isShip := slices.ContainsFunc(s.Ships, func(s api.Ship) bool { return s.ID == x.Entry.Ship })
		same := only(d.Surveys, func(y api.Surveyed) bool { return y.Ship == x.Entry.Ship && y.Load == x.Entry.Load })
		twice := slices.ContainsFunc(d.Surveys, func(y api.Surveyed) bool { return y.Survey.ID == v.ID })
		if isShip && survey.Check(d.Bulbs, v) == api.OK && !twice && len(same) < 12 {
			d.Surveys = append(d.Surveys, api.Surveyed{Ship: x.Entry.Ship, Load: x.Entry.Load, Survey: v})
		} else {
			refused = append(refused, x)
		}
	}
	for _, x := range counted(l, api.EnMove, known) {
		t := api.Trade{Holders: s.Holders, Moves: slices.Concat(d.Trade.Moves, []api.Move{x.Entry.Move})}
		if flow.Check(t) == api.OK {
			d.Trade = t
		} else {
			refused = append(refused, x)
		}
	}
	for _, x := range counted(l, api.EnGauge, known) {
		g := slices.Concat(d.Gauges, []api.Gauge{x.Entry.Gauge})
		if _, e := tide.Levels(s.Water, g); e == api.OK {
			d.Gauges = g
		} else {
			refused = append(refused, x)
		}
	}
	return d, refused
}

// foldIs fails unless Fold returns what stands, and what is refused.
func foldIs(t *testing.T, s api.Setting, l []api.Entered, known int, d api.Standing, refused []api.Entered) {
	t.Helper()
	got, r := foldOf(t, s, l, known)
	alike(t, got, d, l, known)
	sameList(t, r, refused, l, known)
}

// told rolls an entry that could be told at a port with the full setting; some are wrong in some way.
func (d *dice) told() api.Entry {
	switch d.between(1, 9) {
	case 1, 2:
		dense := d.of(1000, 1000, 999, 1003, d.between(899, 1101))
		shown := d.span(dense-4, dense+6, d.between(-1, 6))
		return glass(d.between(1, 9), d.of(1, 1, 2, 3), dense, shown)
	case 3, 4, 5:
		p := d.between(120, 480)
		x := api.Survey{ID: d.between(1, 14), Tick: d.between(0, 9), Sag: d.of(0, 0, 3, 200), Hydro: d.of(1, 1, 1, 2, 3), Shown: d.span(998, 1004, 3)}
		for i := range x.Marks {
			x.Marks[i] = d.span(p-3, p+3, d.between(0, 9))
		}
		return surveyed(d.of(1, 1, 1, 3, 4), d.of(1, 1, 2), x)
	case 6, 7:
		return move(d.between(1, 9), d.of(1, 1, 2, 3), d.of(2, 3, 3, 1, 4), d.span(0, 40, d.between(-1, 30)))
	case 8:
		return gauge(d.between(1, 6), d.between(0, 60), d.span(-10, 60, 60))
	}
	return back(d.between(1, 8))
}

// entries rolls such entries, of different lines, in any order.
func (d *dice) entries(s api.Setting, n int) []api.Entered {
	var l []api.Entered
	for _, w := range s.Wharves {
		for line := range n {
			if !d.one(4) {
				l = append(l, entered(w, line+1, d.between(0, 9), d.told()))
			}
		}
	}
	return shuffled(d, l)
}

// P10.4: what stands, by the words of the chapter.
func TestFold(t *testing.T) {
	d := &dice{}
	s := full()
	met := map[string]int{}
	for range 1500 {
		l := d.entries(s, d.of(3, 8, 12))
		known := d.of(-1, 0, 3, 5, 9, 10, maxInt, minInt)
		want, refused := foldByWords(s, l, known)
		foldIs(t, s, l, known, want, refused)
		met["glasses"] += min(1, len(want.Bulbs.Glasses))
		met["surveys"] += min(1, len(want.Surveys))
		met["moves"] += min(1, len(want.Trade.Moves))
		met["gauges"] += min(1, len(want.Gauges))
		for _, x := range refused {
			met["refused "+entryForms[x.Entry.Kind].word]++
		}
	}
	enough(t, met, 300, "glasses", "surveys", "moves", "gauges", "refused g", "refused s", "refused m", "refused w")
}

// P10.4: with nothing there is what the setting has.
func TestFoldOfNothing(t *testing.T) {
	foldIs(t, api.Setting{}, nil, 0, api.Standing{}, nil)
	s := full()
	empty := api.Standing{Bulbs: api.Bulbs{Hydros: s.Hydros}, Trade: api.Trade{Holders: s.Holders}}
	foldIs(t, s, nil, 0, empty, nil)
	foldIs(t, s, book(5, two()), -1, empty, nil)
	foldIs(t, s, book(5, back(1), back(3), back(2)), 0, empty, nil)
}

// P10.4: entries count from their minute on, and until they are taken back, whatever takes them back stands for.
func TestWhatCounts(t *testing.T) {
	s := full()
	l := []api.Entered{entered(5, 2, 4, two()), entered(5, 1, 6, back(2)), entered(5, 3, 8, back(1)), entered(2, 2, 5, move(4, 1, 2, span(3, 5))), entered(9, 7, 0, back(2))}
	for known := -1; known < 12; known++ {
		d, refused := foldOf(t, s, l, known)
		equal(t, len(d.Bulbs.Glasses) == 1, 4 <= known && known < 6, known) // what takes a line back does so even if it is taken back
		equal(t, len(d.Trade.Moves) == 1, known >= 5, known)                // a line of another wharf is not meant
		equal(t, len(refused), 0)
	}
	d, _ := foldOf(t, s, append(l, entered(2, 1, 5, back(2))), 9)
	equal(t, len(d.Trade.Moves), 0)
	d, _ = foldOf(t, s, []api.Entered{entered(5, 2, 4, two()), entered(5, 60, 4, back(2))}, 4)
	equal(t, len(d.Bulbs.Glasses), 0)
	d, _ = foldOf(t, s, []api.Entered{entered(5, 2, 1<<20, two()), entered(2, 2, 0, two())}, 1<<20)
	equal(t, len(d.Bulbs.Glasses), 1)
}

// P10.4: entries are taken by wharf, then by line, whatever the setting's order and the list's is; what is refused comes by kind.
func TestOrderOfEntries(t *testing.T) {
	s := full()
	l := []api.Entered{
		entered(9, 1, 0, glass(2, 1, 1000, at(1002))), entered(2, 9, 0, glass(2, 1, 1000, at(1001))), entered(5, 1, 0, glass(3, 1, 1000, at(1002))), entered(2, 2, 8, glass(4, 1, 1000, at(1001))),
		entered(9, 2, 0, gauge(1, 0, at(70))), entered(5, 2, 0, gauge(1, 0, at(80))), entered(9, 3, 0, move(1, 1, 4, at(1))), entered(2, 3, 0, move(1, 1, 1, at(1))), entered(9, 4, 0, sevenAs(1, 1, 7)), entered(5, 4, 0, sevenAs(3, 2, 7)),
	}
	d := api.Standing{Bulbs: api.Bulbs{Hydros: s.Hydros, Glasses: []api.Glass{l[3].Entry.Glass, l[1].Entry.Glass}}, Trade: api.Trade{Holders: s.Holders}, Gauges: []api.Gauge{l[5].Entry.Gauge}}
	d.Surveys = []api.Surveyed{{Ship: 3, Load: 2, Survey: l[9].Entry.Survey}}
	foldIs(t, s, l, 9, d, []api.Entered{l[2], l[0], l[8], l[7], l[6], l[4]})
}

// P10.4: glasses that are refused: those that CheckBulbs does not take, and those that leave a hydrometer no error.
func TestGlassesThatAreRefused(t *testing.T) {
	s := full()
	first := glass(2, 1, 1000, span(1001, 1003))
	for _, x := range []api.Entry{
		glass(2, 2, 1000, at(1001)), glass(3, 3, 1000, at(1001)), glass(3, 0, 1000, at(1001)), glass(3, 1, 899, at(900)), glass(3, 1, 1101, at(1101)), glass(3, 1, 1000, span(1003, 1001)), glass(3, 1, 1000, span(-1, 1001)), glass(3, 1, 1000, span(1001, 2001)),
		glass(3, 1, 1000, at(1000)), glass(3, 1, 1000, at(1004)), glass(3, 1, 1000, at(1006)), glass(3, 1, 1002, at(1002)), glass(3, 2, 1000, at(1004)), glass(3, 2, 1000, at(999)),
	} {
		d, refused := foldOf(t, s, book(5, first, x), 0)
		alike(t, d.Bulbs, api.Bulbs{Hydros: s.Hydros, Glasses: []api.Glass{first.Glass}}, x)
		sameList(t, refused, book(5, first, x)[1:])
	}
	for _, x := range []api.Entry{glass(3, 1, 1000, at(1001)), glass(3, 1, 1000, span(1003, 1009)), glass(3, 2, 1000, at(1000)), glass(3, 2, 1000, at(1003)), glass(1, 1, 1100, at(1102)), glass(1, 1, 900, span(0, 2000))} {
		d, refused := foldOf(t, s, book(5, first, x), 0)
		sameList(t, d.Bulbs.Glasses, []api.Glass{first.Glass, x.Glass})
		equal(t, len(refused), 0)
	}
}

// P10.4: surveys that are refused.
func TestSurveysThatAreRefused(t *testing.T) {
	s := full()
	change := func(f func(x *api.Entry)) api.Entry {
		x := sevenAs(1, 1, 8)
		f(&x)
		return x
	}
	for _, x := range []api.Entry{
		sevenAs(2, 1, 8), sevenAs(4, 1, 8), sevenAs(1, 1, 7), sevenAs(3, 2, 7),
		change(func(x *api.Entry) { x.Survey.Tick = -1 }), change(func(x *api.Entry) { x.Survey.Tick = 1<<20 + 1 }), change(func(x *api.Entry) { x.Survey.Sag = -1 }), change(func(x *api.Entry) { x.Survey.Sag = 201 }), change(func(x *api.Entry) { x.Survey.Hydro = 3 }),
		change(func(x *api.Entry) { x.Survey.Marks[3] = span(252, 250) }), change(func(x *api.Entry) { x.Survey.Marks[0] = span(0, 400) }), change(func(x *api.Entry) { x.Survey.Marks[0] = at(100) }), change(func(x *api.Entry) { x.Survey.Shown = span(0, 800) }), change(func(x *api.Entry) { x.Survey.Shown = at(1104) }),
	} {
		d, refused := foldOf(t, s, book(5, two(), seven(), x), 0)
		equal(t, len(d.Surveys), 1, x)
		sameList(t, refused, book(5, two(), seven(), x)[2:])
	}
	for _, x := range []api.Entry{sevenAs(1, 1, 8), sevenAs(1, 9, 8), sevenAs(3, 1, 8), change(func(x *api.Entry) { x.Survey.Shown = at(1103) })} {
		d, refused := foldOf(t, s, book(5, two(), seven(), x), 0)
		sameList(t, d.Surveys, []api.Surveyed{{Ship: 1, Load: 1, Survey: seven().Survey}, {Ship: x.Ship, Load: x.Load, Survey: x.Survey}})
		equal(t, len(refused), 0)
	}
	// with all glasses, also those of later lines: these leave 1103 no density
	d, refused := foldOf(t, s, book(5, change(func(x *api.Entry) { x.Survey.Shown = at(1103) }), glass(3, 1, 1000, span(995, 1002)), glass(4, 1, 1000, at(1002))), 0)
	equal(t, len(d.Surveys), 0)
	equal(t, len(refused), 1)
}

// P10.4: the limits of what stands.
func TestLimitsOfWhatStands(t *testing.T) {
	s := full()
	var l []api.Entered
	for i := range 60 {
		l = append(l, entered(2, i+1, 0, glass(i+1, 1, 1000, at(1001))), entered(9, i+1, 0, move(i+1, 1, 2, at(0))))
		if i < 45 {
			l = append(l, entered(5, i+1, 0, gauge(i+1, 0, span(-3000, 3000))))
		}
	}
	for i := range 15 {
		l = append(l, entered(5, i+46, 0, level(1, i%2+1, i+1, at(200), at(1001))))
	}
	d, refused := foldOf(t, s, l, 0)
	equal(t, len(d.Bulbs.Glasses), 40)
	equal(t, len(d.Trade.Moves), 24)
	equal(t, len(d.Gauges), 40)
	equal(t, len(d.Surveys), 15)
	equal(t, len(refused), 20+36+5)
	for _, x := range l {
		isOut := slices.Contains(refused, x)
		limit := map[int]int{api.EnGlass: 40, api.EnMove: 24, api.EnGauge: 40, api.EnSurvey: 60}[x.Entry.Kind]
		equal(t, isOut, x.Line > limit, x)
	}
	l = nil
	for i := range 28 {
		l = append(l, entered(5, i+1, 0, level(1, i%2+1, i+1, at(200), at(1001))))
	}
	d, refused = foldOf(t, s, l, 0)
	equal(t, len(d.Surveys), 24)
	sameList(t, refused, l[24:])
	d, refused = foldOf(t, s, append(l, entered(2, 1, 0, level(1, 3, 30, at(200), at(1001))), entered(2, 2, 0, level(3, 1, 31, at(200), at(1001)))), 0)
	equal(t, len(d.Surveys), 26)
	sameList(t, refused, l[24:])
}

// P10.4: gauges that are refused, and those that stand with none.
func TestGaugesThatAreRefused(t *testing.T) {
	s := full()
	first := gauge(2, 12, span(100, 110)) // the water without its level is 46 high then
	for _, x := range []api.Entry{gauge(2, 12, span(100, 110)), gauge(3, 12, at(99)), gauge(3, 12, span(111, 200)), gauge(3, -1, at(100)), gauge(3, 1<<20+1, at(100)), gauge(3, 12, span(110, 100)), gauge(3, 12, span(40001, 40001))} {
		d, refused := foldOf(t, s, book(5, first, x), 0)
		sameList(t, d.Gauges, []api.Gauge{first.Gauge})
		sameList(t, refused, book(5, first, x)[1:])
	}
	d, refused := foldOf(t, s, book(5, gauge(1, 0, at(20000)), first, gauge(3, 12, span(110, 120))), 0)
	sameList(t, d.Gauges, []api.Gauge{first.Gauge, {ID: 3, Tick: 12, Read: span(110, 120)}})
	equal(t, len(refused), 1)
}

// foldFails fails unless Fold returns an error, and nothing.
func foldFails(t *testing.T, s api.Setting, l []api.Entered, known int, want api.Errno, about ...any) {
	t.Helper()
	d, refused, e := port.Fold(s, l, known)
	equal(t, e, want, about)
	alike(t, d, api.Standing{}, about)
	equal(t, len(refused), 0, about)
}

// wrongEntries lists entries each of which is wrong in one way.
func wrongEntries() []api.Entered {
	l := []api.Entered{entered(1, 1, 0, two()), entered(0, 1, 0, two()), entered(4, 1, 0, two()), entered(5, 0, 0, two()), entered(5, 61, 0, two()), entered(5, -1, 0, two()), entered(5, minInt, 0, two()), entered(5, maxInt, 0, two())}
	l = append(l, entered(5, 1, -1, two()), entered(5, 1, minInt, two()), entered(5, 1, 1<<20+1, two()), entered(5, 1, maxInt, two()), entered(5, 1, 0, api.Entry{}), entered(5, 1, 0, back(0)), entered(5, 1, 0, back(61)))
	for _, kind := range []int{-1, 6} {
		x := two()
		x.Kind = kind
		l = append(l, entered(5, 1, 0, x))
	}
	return l
}

// P10.4: the errors, in their order.
func TestErrorsOfFold(t *testing.T) {
	s := full()
	bad := changed(func(s *api.Setting) { s.Wharves = []int{2, 2} })
	var many []api.Entered
	for i := range 241 {
		many = append(many, entered(5, i, i, api.Entry{}))
	}
	foldFails(t, bad, many, 0, api.ErrTwice)
	foldFails(t, s, many, 240, api.ErrLimit)
	foldFails(t, s, many[:240], 240, api.ErrArg)
	for _, x := range wrongEntries() {
		foldFails(t, s, []api.Entered{x}, maxInt, api.ErrArg, x)
		foldFails(t, s, []api.Entered{entered(2, 1, 0, two()), x, entered(2, 1, 0, two())}, maxInt, api.ErrArg, x)
		foldFails(t, s, []api.Entered{entered(2, 1, 0, two()), entered(2, 1, 0, two()), x}, maxInt, api.ErrTwice, x)
		foldFails(t, s, []api.Entered{x, x}, maxInt, api.ErrArg, x)
	}
	foldFails(t, s, []api.Entered{entered(2, 1, 0, two()), entered(5, 1, 0, two()), entered(2, 1, 3, back(7))}, 9, api.ErrTwice)
	foldOf(t, s, []api.Entered{entered(2, 1, 0, two()), entered(5, 1, 0, two()), entered(2, 60, 1<<20, back(7))}, maxInt)
}

// P10.4, P10.14: entries that stand later are none for the errors, either.
func TestLaterEntriesAreNone(t *testing.T) {
	s := full()
	l := book(5, two(), seven())
	d, refused := foldOf(t, s, l, 5)
	var later []api.Entered
	for _, x := range append(wrongEntries(), l...) {
		x.Tick = max(x.Tick, 6)
		later = append(later, x)
	}
	for i := range 300 {
		later = append(later, entered(5, i, 6+i, two()))
	}
	foldIs(t, s, append(slices.Clone(later), l...), 5, d, refused)
	foldIs(t, s, append(slices.Clone(l), later...), 5, d, refused)
	foldFails(t, s, append(slices.Clone(l), later...), 306, api.ErrLimit)
	foldFails(t, s, append(slices.Clone(l), later...), 6, api.ErrArg)
}

// P10.4: a port can have 240 lines.
func TestManyEntries(t *testing.T) {
	s := changed(func(s *api.Setting) { s.Wharves = []int{8, 5, 2, 9} })
	var l []api.Entered
	for _, w := range s.Wharves {
		for i := range 60 {
			l = append(l, entered(w, i+1, 0, move(i%24+1, 1, 3, at(0))))
		}
	}
	d, refused := foldOf(t, s, l, 0)
	equal(t, len(d.Trade.Moves), 24)
	equal(t, len(refused), 216)
}
