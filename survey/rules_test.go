package survey_test

import (
	"slices"
	"testing"

	"kentledge/api"
	"kentledge/survey"
)

// surveyCall is one of the functions that are given a ship and a survey; empty tells whether the results beside the error are zero.
type surveyCall struct {
	name string
	of   func(s api.Ship, b api.Bulbs, x api.Survey) (e api.Errno, empty bool)
}

func ofSurveys() []surveyCall {
	return []surveyCall{
		{"Volumes", func(s api.Ship, b api.Bulbs, x api.Survey) (api.Errno, bool) {
			v, e := survey.Volumes(s, b, x)
			return e, v == api.Range{}
		}},
		{"Mass", func(s api.Ship, b api.Bulbs, x api.Survey) (api.Errno, bool) {
			m, e := survey.Mass(s, b, x)
			return e, m == api.Span{}
		}},
		{"Possible", func(s api.Ship, b api.Bulbs, x api.Survey) (api.Errno, bool) {
			is, e := survey.Possible(s, b, x, 700)
			return e, !is
		}},
		{"Best", func(s api.Ship, b api.Bulbs, x api.Survey) (api.Errno, bool) {
			mark, use, e := survey.Best(s, b, x)
			return e, mark == 0 && use == 0
		}},
	}
}

// listCall is one of the functions that are given a ship and a list of surveys.
type listCall struct {
	name string
	of   func(s api.Ship, b api.Bulbs, l []api.Survey) (e api.Errno, empty bool)
}

// ofLists lists the functions that are given a list of surveys. Some are given what is wrong besides: that comes behind the errors of the list.
func ofLists() []listCall {
	return []listCall{
		{"Together", func(s api.Ship, b api.Bulbs, l []api.Survey) (api.Errno, bool) {
			m, e := survey.Together(s, b, l)
			return e, m == api.Span{}
		}},
		{"Rests", func(s api.Ship, b api.Bulbs, l []api.Survey) (api.Errno, bool) {
			low, high, e := survey.Rests(s, b, l)
			return e, low == 0 && high == 0
		}},
		{"Core", func(s api.Ship, b api.Bulbs, l []api.Survey) (api.Errno, bool) {
			ids, e := survey.Core(s, b, l)
			return e, len(ids) == 0
		}},
		{"Suspects", func(s api.Ship, b api.Bulbs, l []api.Survey) (api.Errno, bool) {
			ids, e := survey.Suspects(s, b, l)
			return e, len(ids) == 0
		}},
		{"Taken before", func(s api.Ship, b api.Bulbs, l []api.Survey) (api.Errno, bool) {
			m, e := survey.Taken(s, b, l, []api.Survey{level(1, at(250)), level(2, at(251))})
			return e, m == api.Span{}
		}},
		{"Taken before another wrong list", func(s api.Ship, b api.Bulbs, l []api.Survey) (api.Errno, bool) {
			m, e := survey.Taken(s, b, l, make([]api.Survey, 13))
			return e, m == api.Span{}
		}},
		{"Taken before a list with a wrong survey", func(s api.Ship, b api.Bulbs, l []api.Survey) (api.Errno, bool) {
			m, e := survey.Taken(s, b, l, make([]api.Survey, 1))
			return e, m == api.Span{}
		}},
		{"Taken after", func(s api.Ship, b api.Bulbs, l []api.Survey) (api.Errno, bool) {
			m, e := survey.Taken(s, b, []api.Survey{level(1, at(250))}, l)
			return e, m == api.Span{}
		}},
		{"Taken after surveys that clash", func(s api.Ship, b api.Bulbs, l []api.Survey) (api.Errno, bool) {
			m, e := survey.Taken(s, b, []api.Survey{level(1, at(250)), level(2, at(251))}, l)
			return e, m == api.Span{}
		}},
		{"Load", func(s api.Ship, b api.Bulbs, l []api.Survey) (api.Errno, bool) {
			load, e := survey.Load(s, b, l)
			return e, len(load.Holds) == 0 && load.All == api.Span{}
		}},
		{"Release", func(s api.Ship, b api.Bulbs, l []api.Survey) (api.Errno, bool) {
			is, e := survey.Release(s, b, l, -1, -1)
			return e, !is
		}},
	}
}

// changedShip is the brig with something else.
func changedShip(f func(s *api.Ship)) api.Ship {
	s := brig()
	f(&s)
	return s
}

// wrongShips are ships with each error that hull.Check has.
func wrongShips() map[api.Errno]api.Ship {
	return map[api.Errno]api.Ship{
		api.ErrArg:   changedShip(func(s *api.Ship) { s.Turn = 0 }),
		api.ErrLimit: changedShip(func(s *api.Ship) { s.Mean.Knots = make([]api.Knot, api.MaxKnots+1) }),
		api.ErrTwice: changedShip(func(s *api.Ship) { s.Holds[1].ID = 1 }),
	}
}

// wrongBulbs are hydrometers and glasses with each error that CheckBulbs has.
func wrongBulbs() map[api.Errno]api.Bulbs {
	return map[api.Errno]api.Bulbs{
		api.ErrArg:   changedBulbs(func(b *api.Bulbs) { b.Glasses[0].Dense = 0 }),
		api.ErrLimit: changedBulbs(func(b *api.Bulbs) { b.Hydros = make([]api.Hydro, 9) }),
		api.ErrNone:  changedBulbs(func(b *api.Bulbs) { b.Glasses[0].Hydro = 2 }),
		api.ErrTwice: changedBulbs(func(b *api.Bulbs) { b.Hydros = append(b.Hydros, b.Hydros[0]) }),
	}
}

// clashing is a hydrometer 1 that can have no error.
func clashing() api.Bulbs {
	return changedBulbs(func(b *api.Bulbs) { b.Glasses[0].Shown = at(1006) })
}

// P4.5 to P4.10, R3, R4: the error of the ship comes first.
func TestErrorsOfShipsComeFirst(t *testing.T) {
	for want, s := range wrongShips() {
		for i, b := range []api.Bulbs{exact(), wrongBulbs()[api.ErrNone], wrongBulbs()[api.ErrLimit]} {
			for _, x := range []api.Survey{level(1, at(250)), {}, level(1, at(1))} {
				for _, c := range ofSurveys() {
					e, empty := c.of(s, b, x)
					equal(t, e, want, c.name, i, x)
					equal(t, empty, true, c.name, i, x)
				}
				for _, l := range [][]api.Survey{nil, {x}, {x, x}, make([]api.Survey, 13)} {
					for _, c := range ofLists() {
						e, empty := c.of(s, b, l)
						equal(t, e, want, c.name, i, l)
						equal(t, empty, true, c.name, i, l)
					}
				}
			}
		}
	}
}

// P4.1 to P4.10, R3, R4: the error of the hydrometers comes next.
func TestErrorsOfBulbsComeNext(t *testing.T) {
	for want, b := range wrongBulbs() {
		equal(t, survey.CheckBulbs(b), want)
		for _, hydro := range []int{1, 9} {
			off, e := survey.Off(b, hydro)
			equal(t, off, api.Span{}, want)
			equal(t, e, want)
			pairs, e := survey.Clashes(b, hydro)
			equal(t, len(pairs), 0, want)
			equal(t, e, want)
			ids, e := survey.Blamed(b, hydro)
			equal(t, len(ids), 0, want)
			equal(t, e, want)
		}
		for _, x := range []api.Survey{level(1, at(250)), {}, level(1, at(1))} {
			equal(t, survey.Check(b, x), want, x)
			for _, e := range readingErrors(t, b, x) {
				equal(t, e, want, x)
			}
			for _, c := range ofSurveys() {
				e, empty := c.of(brig(), b, x)
				equal(t, e, want, c.name, x)
				equal(t, empty, true, c.name, x)
			}
			for _, l := range [][]api.Survey{nil, {x}, {x, x}, make([]api.Survey, 13)} {
				for _, c := range ofLists() {
					e, empty := c.of(brig(), b, l)
					equal(t, e, want, c.name, l)
					equal(t, empty, true, c.name, l)
				}
			}
		}
	}
}

// wrongSurvey is a survey with an error, by hydrometers.
type wrongSurvey struct {
	b    api.Bulbs
	x    api.Survey
	want api.Errno
}

// wrongSurveys are surveys with each error that Check has.
func wrongSurveys() []wrongSurvey {
	lost, bent, odd := level(1, at(250)), level(1, at(250)), level(1, at(250))
	lost.Hydro = 2
	bent.Marks[0] = at(260)
	odd.Shown = at(800)
	return []wrongSurvey{
		{exact(), withID(0, level(1, at(250))), api.ErrArg},
		{clashing(), withID(0, lost), api.ErrArg},
		{exact(), lost, api.ErrNone},
		{clashing(), lost, api.ErrNone},
		{clashing(), level(1, at(250)), api.ErrClash},
		{exact(), bent, api.ErrClash},
		{exact(), odd, api.ErrClash},
	}
}

// P4.3 to P4.6, R3, R4: then comes the error of the survey.
func TestErrorsOfSurveysComeThen(t *testing.T) {
	for _, k := range wrongSurveys() {
		equal(t, survey.Check(k.b, k.x), k.want, k)
		for _, e := range readingErrors(t, k.b, k.x) {
			equal(t, e, k.want, k)
		}
		for _, c := range ofSurveys() {
			e, empty := c.of(brig(), k.b, k.x)
			equal(t, e, k.want, c.name, k)
			equal(t, empty, true, c.name, k)
		}
		for _, c := range ofLists() {
			for _, l := range [][]api.Survey{{k.x}, {k.x, k.x}, {k.x, {}}} {
				e, empty := c.of(brig(), k.b, l)
				want := k.want
				if k.b.Glasses != nil && (c.name == "Taken after" || c.name == "Taken after surveys that clash") {
					want = api.ErrClash // the hydrometer of the surveys before
				}
				equal(t, e, want, c.name, k)
				equal(t, empty, true, c.name, k)
			}
		}
	}
}

// P4.7 to P4.10, R3, R4: the errors of lists, in their order.
func TestErrorsOfLists(t *testing.T) {
	x, y := level(1, at(250)), level(2, at(1)) // y is valid, but by it no mass is possible
	var twelve []api.Survey
	for i := range api.MaxSurveys {
		twelve = append(twelve, level(i+1, at(250)))
	}
	for i, k := range []struct {
		l    []api.Survey
		want api.Errno
	}{
		{nil, api.ErrNone},
		{[]api.Survey{}, api.ErrNone},
		{make([]api.Survey, 13), api.ErrLimit},
		{append(slices.Clone(twelve), level(13, at(250))), api.ErrLimit},
		{append(slices.Clone(twelve), level(1, at(250))), api.ErrLimit},
		{append(slices.Clone(twelve[1:]), twelve[11]), api.ErrTwice},
		{append(slices.Clone(twelve[:11]), twelve[0]), api.ErrTwice},
		{append(slices.Clone(twelve[:11]), api.Survey{}), api.ErrArg},
		{[]api.Survey{x, y, y, {}}, api.ErrTwice},
		{[]api.Survey{x, y, {}, y}, api.ErrArg},
		{[]api.Survey{{}, y, y}, api.ErrArg},
		{[]api.Survey{x, withID(1, wrongSurveys()[2].x)}, api.ErrNone},
		{[]api.Survey{x, withID(1, wrongSurveys()[5].x)}, api.ErrClash},
		{[]api.Survey{x, withID(1, wrongSurveys()[6].x), {}}, api.ErrClash},
		{[]api.Survey{x, y, withID(1, y)}, api.ErrTwice},
	} {
		for _, c := range ofLists() {
			e, empty := c.of(brig(), exact(), k.l)
			equal(t, e, k.want, c.name, i)
			equal(t, empty, true, c.name, i)
		}
	}
	m, e := survey.Together(brig(), exact(), twelve)
	equal(t, m, at(700), "as many as can be")
	equal(t, e, api.OK)
	taken, e := survey.Taken(brig(), exact(), twelve, twelve)
	equal(t, taken, at(0), "as many as can be, twice, with the same IDs")
	equal(t, e, api.OK)
}

// P4.9, R3: all errors of the former list come before those of the latter one, and before ErrClash.
func TestOrderOfErrorsOfTaken(t *testing.T) {
	x, y := level(1, at(250)), level(1, at(1))
	for i, c := range []struct {
		before, after []api.Survey
		want          api.Errno
	}{
		{nil, make([]api.Survey, 13), api.ErrNone},
		{make([]api.Survey, 13), nil, api.ErrLimit},
		{make([]api.Survey, 1), nil, api.ErrArg},
		{[]api.Survey{x, x}, nil, api.ErrTwice},
		{[]api.Survey{x}, nil, api.ErrNone},
		{[]api.Survey{y}, nil, api.ErrNone},
		{[]api.Survey{y}, make([]api.Survey, 13), api.ErrLimit},
		{[]api.Survey{y}, []api.Survey{{}}, api.ErrArg},
		{[]api.Survey{y}, []api.Survey{x, x}, api.ErrTwice},
		{[]api.Survey{y}, []api.Survey{x}, api.ErrClash},
		{[]api.Survey{x}, []api.Survey{y}, api.ErrClash},
		{[]api.Survey{x}, []api.Survey{x}, api.OK},
	} {
		m, e := survey.Taken(brig(), exact(), c.before, c.after)
		equal(t, e, c.want, i)
		equal(t, m, api.Span{}, i)
	}
}

// P4.5 to P4.9: what has ErrClash at last, and what has not, where no mass is possible.
func TestErrorsWithoutMasses(t *testing.T) {
	x := level(1, at(1))
	want := map[string]api.Errno{"Possible": api.OK, "Core": api.OK, "Suspects": api.OK}
	for _, c := range ofSurveys() {
		e, empty := c.of(brig(), exact(), x)
		if k, is := want[c.name]; is {
			equal(t, e, k, c.name)
		} else {
			equal(t, e, api.ErrClash, c.name)
		}
		equal(t, empty, true, c.name)
	}
	for _, c := range ofLists()[:4] {
		e, empty := c.of(brig(), exact(), []api.Survey{x})
		if k, is := want[c.name]; is {
			equal(t, e, k, c.name)
		} else {
			equal(t, e, api.ErrClash, c.name)
		}
		equal(t, empty, c.name != "Core", c.name)
	}
}

// roomy returns a copy of a list with something behind its end, and a test that it is still there.
func roomy[T comparable](l []T, mark T) ([]T, func() bool) {
	long := append(slices.Clone(l), mark, mark)
	return long[:len(l)], func() bool {
		return slices.Equal(long[:len(l)], l) && long[len(l)] == mark && long[len(l)+1] == mark
	}
}

// R6: arguments are not changed, nor is what lies behind their ends.
func TestArgumentsStay(t *testing.T) {
	forLists(t, func(d *dice, s api.Ship, b api.Bulbs, l []api.Survey) {
		var tests [7]func() bool
		s.Holds, tests[0] = roomy(s.Holds, api.Hold{ID: -7})
		s.Mean.Knots, tests[1] = roomy(s.Mean.Knots, api.Knot{X: -7})
		s.Meta.Knots, tests[2] = roomy(s.Meta.Knots, api.Knot{X: -7})
		b.Hydros, tests[3] = roomy(b.Hydros, api.Hydro{ID: -7})
		glasses := append(slices.Clone(b.Glasses), api.Glass{ID: 51, Hydro: 1, Dense: 1000, Shown: at(1000)}, api.Glass{ID: 52, Hydro: 1, Dense: 1000, Shown: at(1001)})
		b.Glasses, tests[4] = roomy(b.Glasses, api.Glass{ID: -7})
		l, tests[5] = roomy(l, api.Survey{ID: -7})
		glasses, tests[6] = roomy(glasses, api.Glass{ID: -7})
		pairs, _ := survey.Clashes(api.Bulbs{Hydros: b.Hydros, Glasses: glasses}, 1)
		blamed, _ := survey.Blamed(api.Bulbs{Hydros: b.Hydros, Glasses: glasses}, 1)
		for _, c := range ofSurveys() {
			c.of(s, b, l[0])
		}
		survey.Ends(b, l[0])
		core, _ := survey.Core(s, b, l)
		suspects, _ := survey.Suspects(s, b, l)
		load, _ := survey.Load(s, b, l)
		for _, c := range ofLists() {
			c.of(s, b, l)
		}
		clear(pairs)
		clear(load.Holds)
		for _, ids := range [][]int{blamed, core, suspects} {
			clear(ids)
		}
		for i, is := range tests {
			equal(t, is(), true, i, s, b, l)
		}
	})
}

// R6: results are new memory.
func TestResultsAreNew(t *testing.T) {
	b := bulbs()
	b.Glasses = append(b.Glasses, api.Glass{ID: 5, Hydro: 1, Dense: 1010, Shown: span(1006, 1007)})
	l := []api.Survey{of(1, 600, 700), of(2, 702, 800)}
	for range 2 {
		pairs, e := survey.Clashes(b, 1)
		good(t, e)
		sameList(t, pairs, [][2]int{{2, 5}})
		blamed, e := survey.Blamed(b, 1)
		good(t, e)
		sameList(t, blamed, []int{2, 5})
		core, e := survey.Core(brig(), exact(), l)
		good(t, e)
		sameList(t, core, []int{1, 2})
		suspects, e := survey.Suspects(brig(), exact(), l)
		good(t, e)
		sameList(t, suspects, []int{1, 2})
		load, e := survey.Load(brig(), exact(), l[:1])
		good(t, e)
		sameList(t, load.Holds, []api.Span{span(0, 400), span(0, 400)})
		pairs[0][0], blamed[0], core[0], suspects[0], load.Holds[0].Lo = 9, 9, 9, 9, 9
	}
}

// R7: the same arguments have the same results, whatever was asked before.
func TestSameResultsAgain(t *testing.T) {
	forSurveys(t, func(d *dice, s api.Ship, b api.Bulbs, x api.Survey) {
		low, high, e := survey.Ends(b, x)
		good(t, e, b, x)
		survey.Ends(exact(), level(1, at(250)))
		again, top, e := survey.Ends(b, x)
		good(t, e, b, x)
		equal(t, again, low, b, x)
		equal(t, top, high, b, x)
	})
}
