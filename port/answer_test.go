package port_test

import (
	"testing"

	"kentledge/api"
	"kentledge/flow"
	"kentledge/port"
	"kentledge/survey"
	"kentledge/tariff"
	"kentledge/tide"
)

func failed(e api.Errno) api.Reply { return api.Reply{Err: e} }

// orFailed is a reply, or the error instead.
func orFailed(e api.Errno, r api.Reply) api.Reply {
	if e != api.OK {
		return failed(e)
	}
	return r
}

// answerByWords is the reply to a question that is formed, by the words of the chapter.
func answerByWords(s api.Setting, l []api.Entered, q api.Command) api.Reply {
	if q.Kind == api.CoDue {
		charges, e := tariff.Due(s.Editions, q.N, q.Cargo)
		return orFailed(e, api.Reply{Charges: charges})
	}
	d, _ := foldByWords(s, l, q.Known)
	with := func(load int) []api.Survey {
		var some []api.Survey
		for _, x := range d.Surveys {
			if x.Ship == q.Ship && x.Load == load {
				some = append(some, x.Survey)
			}
		}
		return some
	}
	ships := only(s.Ships, func(x api.Ship) bool { return x.ID == q.Ship })
	if q.Kind <= api.CoFree && len(ships) == 0 {
		return failed(api.ErrNone)
	}
	switch q.Kind {
	case api.CoMass:
		span, e := survey.Together(ships[0], d.Bulbs, with(q.Load))
		a, b, _ := survey.Rests(ships[0], d.Bulbs, with(q.Load))
		return orFailed(e, api.Reply{Span: span, IDs: []int{a, b}})
	case api.CoTaken:
		span, e := survey.Taken(ships[0], d.Bulbs, with(q.Load), with(q.N))
		return orFailed(e, api.Reply{Span: span})
	case api.CoFree:
		yes, e := survey.Release(ships[0], d.Bulbs, with(q.Load), q.Depth, q.Keel)
		return orFailed(e, api.Reply{Yes: yes})
	case api.CoHolds:
		low, e := flow.Least(d.Trade, api.At{Kind: api.AtEnd, ID: q.N})
		high, _ := flow.Greatest(d.Trade, api.At{Kind: api.AtEnd, ID: q.N})
		return orFailed(e, api.Reply{Low: low, High: high})
	case api.CoCourse:
		course, e := flow.Find(d.Trade)
		if e == api.OK {
			return api.Reply{Yes: true, Course: course}
		}
		cut, _, _ := flow.Contradiction(d.Trade)
		return api.Reply{Cut: cut}
	case api.CoLacks:
		ids, e := flow.Lacking(d.Trade)
		return orFailed(e, api.Reply{IDs: ids})
	}
	levels, e := tide.Levels(s.Water, d.Gauges)
	if e != api.OK {
		return failed(e)
	}
	w := s.Water
	w.Level = levels.Lo
	spans, e := tide.Windows(w, q.Minutes, q.N)
	return orFailed(e, api.Reply{Spans: spans})
}

// answerIs fails unless Answer returns a reply, and CheckAnswer takes it.
func answerIs(t *testing.T, s api.Setting, l []api.Entered, q api.Command, want api.Reply) {
	t.Helper()
	got := port.Answer(s, l, q)
	alike(t, got, want, q)
	equal(t, port.CheckAnswer(s, l, q, got), api.OK, q)
}

// question rolls one about a port with the full setting.
func (d *dice) question(s api.Setting, known int) api.Command {
	a := d.of(s.Wharves...)
	switch d.between(api.CoMass, api.CoWater) {
	case api.CoMass:
		return askMass(a, known, d.of(1, 1, 1, 3, 4), d.of(1, 1, 2, 3))
	case api.CoTaken:
		return askTaken(a, known, d.of(1, 1, 1, 3, 4), d.of(1, 1, 2), d.of(1, 2, 2, 3))
	case api.CoFree:
		return askFree(a, known, d.of(1, 1, 1, 3, 4), d.of(1, 1, 2), d.of(0, 400, 800, 1200, 65536), d.of(0, 20, 5000))
	case api.CoHolds:
		return askHolds(a, known, d.between(1, 4))
	case api.CoCourse:
		return askCourse(a, known)
	case api.CoLacks:
		return askLacks(a, known)
	case api.CoDue:
		lots := []api.Lot{{Grade: "flint", Mass: d.between(0, 90)}, {Mass: d.between(0, 90)}, {Grade: "shingle", Mass: 30}}
		return askDue(d.of(0, 9, 10, 29, 30, 728), lots[:d.between(0, 3)]...)
	}
	return askWater(a, known, span(d.between(0, 9), d.of(10, 100, 1500, 10079, 10089)), d.between(-30, 120))
}

// name is a kind of command, and how it was replied to.
func name(c api.Command, r api.Reply) string {
	word := commandForms[c.Kind].word
	switch {
	case r.Err != api.OK:
		return word + " " + []string{"", "arg", "limit", "range", "state", "none", "twice", "form", "proof", "clash"}[r.Err]
	case r.Yes:
		return word + " yes"
	}
	return word
}

// flows is the full setting, rolled so that the trade has a course, or not.
func (d *dice) flows() api.Setting {
	s := full()
	if d.one(2) {
		s.Holders[0].End = span(0, 120)
		s.Holders[1].End = span(0, 120)
		s.Holders[2].End = span(0, 120)
		s.Holders[d.between(0, 2)].Booked = 130
	}
	return s
}

// P10.10: replies by the words of the chapter.
func TestAnswers(t *testing.T) {
	d := &dice{}
	met := map[string]int{}
	for range 700 {
		s := d.flows()
		l := d.entries(s, d.of(3, 6, 12))
		for range 8 {
			q := d.question(s, d.of(0, 5, 9, 9))
			r := answerByWords(s, l, q)
			answerIs(t, s, l, q, r)
			met[name(q, r)]++
		}
	}
	enough(t, met, 30, "mass", "mass none", "mass clash", "taken", "taken none", "taken clash", "free", "free yes", "free none", "free clash", "holds", "holds none", "holds clash",
		"course", "course yes", "lacks", "lacks clash", "due", "due none", "water", "water limit")
}

// P10.10: masses by what was read, as in layer 4's examples.
func TestMasses(t *testing.T) {
	s := example()
	l := book(1, two(), seven(), level(1, 1, 3, span(240, 250), at(1002)), sevenAs(1, 2, 9))
	answerIs(t, s, l[1:2], askMass(1, 0, 1, 1), api.Reply{Span: span(699, 709), IDs: []int{7, 7}})
	answerIs(t, s, l[:2], askMass(1, 0, 1, 1), api.Reply{Span: span(700, 705), IDs: []int{7, 7}})
	answerIs(t, s, l, askMass(1, 0, 1, 1), api.Reply{Span: span(700, 700), IDs: []int{7, 3}})
	answerIs(t, s, l, askMass(1, 0, 1, 2), api.Reply{Span: span(700, 705), IDs: []int{9, 9}})
	answerIs(t, s, l, askMass(1, 0, 1, 3), failed(api.ErrNone)) // no survey
	answerIs(t, s, l, askMass(1, 0, 2, 1), failed(api.ErrNone)) // no ship
	answerIs(t, s, book(1, seven(), level(1, 1, 3, at(300), at(1002))), askMass(1, 0, 1, 1), failed(api.ErrClash))
	answerIs(t, s, l, askTaken(1, 0, 1, 1, 2), api.Reply{Span: span(-5, 0)})
	answerIs(t, s, l, askTaken(1, 0, 1, 2, 1), api.Reply{Span: span(0, 5)})
	answerIs(t, s, l, askTaken(1, 0, 1, 1, 1), api.Reply{})
	answerIs(t, s, l, askTaken(1, 0, 1, 2, 2), api.Reply{Span: span(-5, 5)})
	answerIs(t, s, l, askTaken(1, 0, 1, 2, 3), failed(api.ErrNone))
	answerIs(t, s, l, askTaken(1, 0, 1, 3, 2), failed(api.ErrNone))
	answerIs(t, s, l, askTaken(1, 0, 2, 1, 2), failed(api.ErrNone))
	answerIs(t, s, l, askFree(1, 0, 1, 1, 65536, 0), api.Reply{Yes: true})
	answerIs(t, s, l, askFree(1, 0, 1, 1, 1750, 0), api.Reply{Yes: true}) // all 300 aft trim by 1500, at a mean draught of 250: she is 1000 deep
	answerIs(t, s, l, askFree(1, 0, 1, 1, 1000, 0), api.Reply{Yes: true})
	answerIs(t, s, l, askFree(1, 0, 1, 1, 999, 0), api.Reply{})
	answerIs(t, s, l, askFree(1, 0, 1, 1, 1000, 1), api.Reply{})
	answerIs(t, s, l, askFree(1, 0, 1, 3, 65536, 0), failed(api.ErrNone))
	answerIs(t, s, l, askFree(1, 0, 2, 1, 65536, 0), failed(api.ErrNone))
	answerIs(t, s, book(1, level(1, 1, 3, at(270), at(1000))), askFree(1, 0, 1, 1, 65536, 0), api.Reply{}) // she is not steady with all in the upper hold
}

// P10.10: what holders can hold, whether there is a course, and who lacks something.
func TestHolders(t *testing.T) {
	s := full()
	l := book(2, move(7, 1, 2, span(30, 50)), move(8, 2, 3, span(35, 60)))
	holds := func(s api.Setting, n, low, high int) {
		t.Helper()
		r := port.Answer(s, l, askHolds(2, 0, n))
		good(t, r.Err)
		equal(t, r.Low.Value, low)
		equal(t, r.High.Value, high)
		alike(t, r, api.Reply{Low: r.Low, High: r.High})
	}
	holds(s, 1, 50, 60)
	holds(s, 2, 0, 5)
	holds(s, 3, 50, 70)
	r := port.Answer(s, l, askCourse(2, 0))
	good(t, flow.CheckCourse(api.Trade{Holders: s.Holders, Moves: []api.Move{l[0].Entry.Move, l[1].Entry.Move}}, r.Course))
	alike(t, r, api.Reply{Yes: true, Course: r.Course})
	answerIs(t, s, l, askLacks(2, 0), api.Reply{})
	answerIs(t, s, l, askHolds(2, 0, 4), failed(api.ErrNone))
	s.Holders[0].Booked = 61
	s.Holders[2].Booked = 71
	answerIs(t, s, l, askLacks(2, 0), api.Reply{IDs: []int{1, 3}})
	answerIs(t, s, nil, askLacks(2, 0), failed(api.ErrClash))
	answerIs(t, s, nil, askHolds(2, 0, 1), failed(api.ErrClash))
	answerIs(t, s, nil, askHolds(2, 0, 4), failed(api.ErrNone))
	r = port.Answer(s, nil, askCourse(2, 0))
	good(t, flow.CheckCut(api.Trade{Holders: s.Holders}, r.Cut))
	alike(t, r, api.Reply{Cut: r.Cut})
	answerIs(t, api.Setting{}, nil, askCourse(2, 0), api.Reply{Yes: true})
	answerIs(t, api.Setting{}, nil, askLacks(2, 0), api.Reply{})
	answerIs(t, api.Setting{}, nil, askHolds(2, 0, 1), failed(api.ErrNone))
}

// P10.10: what is to be paid, by the edition in force.
func TestDues(t *testing.T) {
	s := full()
	lots := []api.Lot{{Grade: "flint", Mass: 30}, {Mass: 20}}
	due := func(bond, wharf int) api.Reply {
		return api.Reply{Charges: []api.Charge{{Due: "bond", Pence: bond}, {Due: "wharf", Pence: wharf}}}
	}
	answerIs(t, s, nil, askDue(9, lots...), failed(api.ErrNone))
	answerIs(t, s, nil, askDue(10, lots...), due(200, 6))
	answerIs(t, s, nil, askDue(29, lots...), due(200, 6))
	answerIs(t, s, nil, askDue(30, lots...), due(200, 10))
	answerIs(t, s, nil, askDue(728, lots[1:]...), due(100, 5))
	answerIs(t, s, nil, askDue(728), due(0, 0))
	answerIs(t, s, wrongEntries(), askDue(30, lots...), due(200, 10)) // it needs no entries
	answerIs(t, api.Setting{}, nil, askDue(3), failed(api.ErrNone))
	answerIs(t, changed(func(s *api.Setting) { s.Wharves[0] = 0 }), nil, askDue(3), failed(api.ErrArg))
}

// P10.10: when the water is surely high enough: by the least level, whatever the level of the setting is.
func TestWaters(t *testing.T) {
	s := example()
	s.Water = api.Water{Level: 900, Cycles: []api.Cycle{{ID: 1, Every: 10, Heights: []int{0, 50}}}}
	l := book(1, gauge(1, 3, span(100, 110)), gauge(2, 13, span(152, 200)), gauge(3, 3, at(99)))
	answerIs(t, s, l[:1], askWater(1, 0, span(0, 39), 120), api.Reply{Spans: []api.Span{span(10, 19), span(30, 39)}})
	answerIs(t, s, l[:1], askWater(1, 0, span(0, 39), 151), api.Reply{})
	answerIs(t, s, l[:2], askWater(1, 0, span(15, 34), 151), api.Reply{Spans: []api.Span{span(15, 19), span(30, 34)}})
	answerIs(t, s, l, askWater(1, 0, span(0, 39), 103), api.Reply{Spans: []api.Span{span(10, 19), span(30, 39)}}) // the third one is refused
	answerIs(t, s, l, askWater(1, 0, span(0, 39), 102), api.Reply{Spans: []api.Span{span(0, 39)}})
	answerIs(t, s, nil, askWater(1, 0, span(0, 39), -3950), api.Reply{Spans: []api.Span{span(10, 19), span(30, 39)}})
	answerIs(t, s, l, askWater(1, 0, span(0, 10080), 102), failed(api.ErrLimit))
	answerIs(t, s, l, askWater(1, 0, span(1, 10080), 102), api.Reply{Spans: []api.Span{span(1, 10080)}})
	answerIs(t, s, l, askWater(1, 0, at(1<<20), 102), api.Reply{Spans: []api.Span{at(1 << 20)}})
}

// P10.10: what is known later does not matter, nor does whether the wharf is one.
func TestWhenItIsAsked(t *testing.T) {
	s := example()
	l := []api.Entered{entered(1, 1, 4, two()), entered(2, 1, 2, seven()), entered(2, 2, 6, back(1))}
	for known, want := range map[int]api.Reply{1: failed(api.ErrNone), 2: {Span: span(699, 709), IDs: []int{7, 7}}, 3: {Span: span(699, 709), IDs: []int{7, 7}}, 4: {Span: span(700, 705), IDs: []int{7, 7}}, 5: {Span: span(700, 705), IDs: []int{7, 7}}, 6: failed(api.ErrNone)} {
		for _, a := range []int{1, 2, 77} {
			answerIs(t, s, l, askMass(a, known, 1, 1), want)
		}
	}
}

// P10.10, P10.11: ErrForm, then the error of Fold, then that of the question.
func TestErrorsOfQuestions(t *testing.T) {
	s := full()
	bad := changed(func(s *api.Setting) { s.Wharves = []int{2, 2} })
	wrong := []api.Entered{entered(5, 0, 0, two())}
	for _, c := range append(kindsOfCommands(), api.Command{}, api.Command{Kind: 13}, api.Command{Kind: -1}) {
		isQuestion := c.Kind >= api.CoMass && c.Kind <= api.CoWater
		for _, q := range []api.Command{c, {Kind: c.Kind}} {
			for _, other := range []api.Setting{s, bad} {
				if isQuestion && formedCommand(q) {
					continue
				}
				alike(t, port.Answer(other, wrong, q), failed(api.ErrForm), q)
				for _, r := range []api.Reply{{}, failed(api.ErrForm), failed(api.ErrTwice), {Yes: true}} {
					equal(t, port.CheckAnswer(other, wrong, q, r), api.ErrForm, q, r)
				}
			}
		}
		if !isQuestion {
			continue
		}
		answerIs(t, bad, wrong, c, failed(api.ErrTwice))
		equal(t, port.CheckAnswer(bad, wrong, c, failed(api.ErrArg)), api.ErrProof, c)
		equal(t, port.CheckAnswer(bad, wrong, c, api.Reply{}), api.ErrProof, c)
		equal(t, port.CheckAnswer(bad, wrong, c, api.Reply{Err: api.ErrTwice, N: 1}), api.ErrProof, c)
		if c.Kind != api.CoDue {
			answerIs(t, s, wrong, c, failed(api.ErrArg))
			equal(t, port.CheckAnswer(s, wrong, c, failed(api.ErrNone)), api.ErrProof, c)
		}
	}
}
