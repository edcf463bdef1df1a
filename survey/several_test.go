package survey_test

import (
	"slices"
	"testing"

	"kentledge/api"
	"kentledge/survey"
)

// P4.7: the example, and lists of one.
func TestTogether(t *testing.T) {
	eight := withID(8, seven())
	eight.Shown = span(1004, 1200)
	m, e := survey.Mass(brig(), bulbs(), eight)
	equal(t, m, span(701, 774))
	equal(t, e, api.OK)
	eight.Marks = level(8, span(252, 299)).Marks
	eight.Shown = at(1003)
	m, e = survey.Mass(brig(), bulbs(), eight)
	equal(t, m, span(704, 799))
	equal(t, e, api.OK)
	for _, c := range []struct {
		l         []api.Survey
		want      api.Span
		low, high int
		e         api.Errno
	}{
		{[]api.Survey{seven()}, span(700, 705), 7, 7, api.OK},
		{[]api.Survey{eight}, span(704, 799), 8, 8, api.OK},
		{[]api.Survey{seven(), eight}, span(704, 705), 8, 7, api.OK},
		{[]api.Survey{eight, seven()}, span(704, 705), 8, 7, api.OK},
		{nil, api.Span{}, 0, 0, api.ErrNone},
	} {
		m, e := survey.Together(brig(), bulbs(), c.l)
		equal(t, m, c.want, c)
		equal(t, e, c.e, c)
		low, high, e := survey.Rests(brig(), bulbs(), c.l)
		equal(t, low, c.low, c)
		equal(t, high, c.high, c)
		equal(t, e, c.e, c)
	}
}

// P4.7: the example, with a second survey by which the masses from 703 to 800 are possible.
func TestTogetherOfTheExample(t *testing.T) {
	b := bulbs()
	b.Hydros = append(b.Hydros, api.Hydro{ID: 2})
	second := level(3, span(251, 300))
	second.Marks[3].Lo, second.Hydro = 252, 2
	m, e := survey.Mass(brig(), b, second)
	equal(t, m, span(703, 800))
	equal(t, e, api.OK)
	l := []api.Survey{seven(), second}
	m, e = survey.Together(brig(), b, l)
	equal(t, m, span(703, 705))
	equal(t, e, api.OK)
	low, high, e := survey.Rests(brig(), b, l)
	equal(t, low, 3)
	equal(t, high, 7)
	equal(t, e, api.OK)
}

// P4.7: of several with the same end the first one; the list is in any order.
func TestRests(t *testing.T) {
	for _, c := range []struct {
		l         []api.Survey
		want      api.Span
		low, high int
		e         api.Errno
	}{
		{[]api.Survey{of(5, 600, 800), of(3, 600, 800), of(9, 600, 800)}, span(600, 800), 5, 5, api.OK},
		{[]api.Survey{of(5, 600, 900), of(3, 700, 800), of(9, 700, 800)}, span(700, 800), 3, 3, api.OK},
		{[]api.Survey{of(5, 600, 800), of(3, 700, 900), of(9, 700, 800)}, span(700, 800), 3, 5, api.OK},
		{[]api.Survey{of(9, 700, 700), of(1, 700, 900), of(3, 600, 700)}, at(700), 9, 9, api.OK},
		{[]api.Survey{of(9, 600, 700), of(1, 400, 1196), of(3, 700, 800)}, at(700), 3, 9, api.OK},
		{[]api.Survey{of(9, 600, 700), of(1, 400, 1196), of(3, 702, 800)}, api.Span{}, 0, 0, api.ErrClash},
		{[]api.Survey{of(9, 600, 700), level(1, at(1))}, api.Span{}, 0, 0, api.ErrClash},
		{[]api.Survey{level(1, at(1))}, api.Span{}, 0, 0, api.ErrClash},
		{[]api.Survey{level(1, at(1)), of(9, 600, 700)}, api.Span{}, 0, 0, api.ErrClash},
	} {
		m, e := survey.Together(brig(), exact(), c.l)
		equal(t, m, c.want, c)
		equal(t, e, c.e, c)
		low, high, e := survey.Rests(brig(), exact(), c.l)
		equal(t, low, c.low, c)
		equal(t, high, c.high, c)
		equal(t, e, c.e, c)
	}
}

// P4.8
func TestCoreAndSuspects(t *testing.T) {
	none := func(id int) api.Survey { return level(id, at(1)) } // by which no mass is possible
	for _, c := range []struct {
		name     string
		l        []api.Survey
		core     []int
		suspects []int
	}{
		{"one that has no mass", []api.Survey{none(4)}, []int{4}, nil},
		{"two that have none", []api.Survey{none(4), none(2)}, []int{4}, nil},
		{"one that has none, behind", []api.Survey{of(2, 600, 700), none(4)}, []int{4}, []int{4}},
		{"one that has none, before", []api.Survey{of(4, 600, 700), none(2)}, []int{2}, []int{2}},
		{"two", []api.Survey{of(4, 600, 700), of(2, 702, 800)}, []int{2, 4}, []int{2, 4}},
		{"three, pairwise", []api.Survey{of(4, 600, 700), of(2, 702, 800), of(9, 802, 900)}, []int{4, 9}, nil},
		{"three, one apart", []api.Survey{of(4, 600, 700), of(2, 702, 800), of(9, 720, 900)}, []int{4, 9}, []int{4}},
		{"three, the least ID apart", []api.Survey{of(4, 600, 700), of(2, 702, 800), of(9, 620, 640)}, []int{2, 9}, []int{2}},
		{"three, the greatest ID apart", []api.Survey{of(4, 600, 700), of(9, 702, 800), of(2, 620, 640)}, []int{4, 9}, []int{9}},
		{"a wide one between", []api.Survey{of(9, 600, 700), of(5, 400, 1196), of(2, 702, 800)}, []int{2, 9}, []int{2, 9}},
		{"a wide one at last", []api.Survey{of(2, 600, 700), of(9, 400, 1196), of(5, 702, 800)}, []int{2, 5}, []int{2, 5}},
		{"a clash and none", []api.Survey{of(2, 600, 700), none(1), of(5, 702, 800)}, []int{2, 5}, nil},
		{"none at last", []api.Survey{of(2, 600, 700), none(9), of(5, 702, 800)}, []int{9}, nil},
		{"two pairs", []api.Survey{of(1, 600, 700), of(2, 702, 800), of(3, 600, 700), of(4, 702, 800)}, []int{3, 4}, nil},
		{"twelve", []api.Survey{of(12, 600, 700), of(11, 700, 800), of(10, 700, 702), of(9, 700, 700), of(8, 690, 700), of(7, 680, 710), of(6, 600, 900), of(5, 700, 710), of(4, 702, 702), of(3, 698, 700), of(2, 400, 1196), of(1, 700, 704)}, []int{4, 12}, []int{4}},
	} {
		for range len(c.l) {
			core, e := survey.Core(brig(), exact(), c.l)
			sameList(t, core, c.core, c.name)
			equal(t, e, api.OK, c.name)
			suspects, e := survey.Suspects(brig(), exact(), c.l)
			sameList(t, suspects, c.suspects, c.name)
			equal(t, e, api.OK, c.name)
			_, e = survey.Together(brig(), exact(), c.l)
			equal(t, e, api.ErrClash, c.name)
			c.l = append(slices.Clone(c.l[1:]), c.l[0]) // the order does not matter
		}
	}
	for _, l := range [][]api.Survey{{of(1, 600, 700)}, {of(2, 600, 700), of(1, 700, 800)}, {of(2, 400, 1196), of(1, 700, 800), of(9, 800, 802)}} {
		core, e := survey.Core(brig(), exact(), l)
		equal(t, len(core), 0, l)
		equal(t, e, api.ErrNone, l)
		suspects, e := survey.Suspects(brig(), exact(), l)
		equal(t, len(suspects), 0, l)
		equal(t, e, api.OK, l)
	}
}

// agree tells whether Together has no error; each mass is possible by no surveys at all.
func agree(s api.Ship, b api.Bulbs, l []api.Survey) bool {
	if len(l) == 0 {
		return true
	}
	_, e := survey.Together(s, b, l)
	return e == api.OK
}

// except returns the surveys of a list without that with an ID.
func except(l []api.Survey, id int) []api.Survey {
	return slices.DeleteFunc(slices.Clone(l), func(x api.Survey) bool { return x.ID == id })
}

func idsOf(l []api.Survey) []int {
	var ids []int
	for _, x := range l {
		ids = append(ids, x.ID)
	}
	slices.Sort(ids)
	return ids
}

// coreByWords leaves out, from the least ID to the greatest one, each survey without which those that are left do not agree, either.
func coreByWords(s api.Ship, b api.Bulbs, l []api.Survey) []int {
	left := slices.Clone(l)
	for _, id := range idsOf(l) {
		if rest := except(left, id); !agree(s, b, rest) {
			left = rest
		}
	}
	return idsOf(left)
}

func suspectsByWords(s api.Ship, b api.Bulbs, l []api.Survey) []int {
	var ids []int
	if agree(s, b, l) || len(l) == 1 {
		return nil
	}
	for _, id := range idsOf(l) {
		if agree(s, b, except(l, id)) {
			ids = append(ids, id)
		}
	}
	return ids
}

// P4.7, P4.8, P4.15: what is said of lists is what is said of each mass.
func TestListsByTheWords(t *testing.T) {
	met := map[string]int{}
	forLists(t, func(d *dice, s api.Ship, b api.Bulbs, l []api.Survey) {
		all := possibleOf(t, s, b, l...)
		m, e := survey.Together(s, b, l)
		equal(t, m, ends(all), s, b, l)
		core, f := survey.Core(s, b, l)
		suspects, g := survey.Suspects(s, b, l)
		equal(t, g, api.OK, s, b, l)
		sameList(t, suspects, suspectsByWords(s, b, l), s, b, l)
		if len(all) == 0 {
			equal(t, e, api.ErrClash, s, b, l)
			sameList(t, core, coreByWords(s, b, l), s, b, l)
			equal(t, f, api.OK, s, b, l)
			if len(suspects) > 0 {
				met["suspects"]++
			}
			if len(core) < len(l) {
				met["a small core"]++
			}
			met["clash"]++
			return
		}
		equal(t, e, api.OK, s, b, l)
		equal(t, m.Hi-m.Lo+1, len(all), "all masses between are possible", s, b, l)
		equal(t, len(core), 0, s, b, l)
		equal(t, f, api.ErrNone, s, b, l)
		rests(t, s, b, l, m)
		met["agree"]++
	})
	enough(t, met, 100, "agree", "clash", "suspects", "a small core")
}

// rests fails unless Rests names the first surveys with the ends of what is possible by all.
func rests(t *testing.T, s api.Ship, b api.Bulbs, l []api.Survey, all api.Span) {
	t.Helper()
	low, high, e := survey.Rests(s, b, l)
	good(t, e, s, b, l)
	first := func(end func(m api.Span) bool) int {
		return l[slices.IndexFunc(l, func(x api.Survey) bool {
			m, e := survey.Mass(s, b, x)
			good(t, e, s, b, x)
			return end(m)
		})].ID
	}
	equal(t, low, first(func(m api.Span) bool { return m.Lo == all.Lo }), s, b, l)
	equal(t, high, first(func(m api.Span) bool { return m.Hi == all.Hi }), s, b, l)
}

// P4.9
func TestTaken(t *testing.T) {
	for _, c := range []struct {
		before, after []api.Survey
		want          api.Span
		e             api.Errno
	}{
		{[]api.Survey{of(1, 700, 800)}, []api.Survey{of(2, 500, 550)}, span(150, 300), api.OK},
		{[]api.Survey{of(1, 500, 550)}, []api.Survey{of(2, 700, 800)}, span(-300, -150), api.OK},
		{[]api.Survey{of(1, 700, 800)}, []api.Survey{of(1, 700, 800)}, span(-100, 100), api.OK},
		{[]api.Survey{of(1, 700, 700)}, []api.Survey{of(1, 700, 700)}, at(0), api.OK},
		{[]api.Survey{of(1, 700, 900), of(2, 720, 1000)}, []api.Survey{of(2, 500, 550), of(1, 540, 600)}, span(170, 360), api.OK},
		{[]api.Survey{of(1, 1196, 1196)}, []api.Survey{of(1, 400, 400)}, at(796), api.OK},
		{[]api.Survey{of(1, 700, 800), of(2, 600, 698)}, []api.Survey{of(1, 500, 600)}, api.Span{}, api.ErrClash},
		{[]api.Survey{of(1, 500, 600)}, []api.Survey{of(1, 700, 800), of(2, 600, 698)}, api.Span{}, api.ErrClash},
		{[]api.Survey{level(1, at(1))}, []api.Survey{level(1, at(1))}, api.Span{}, api.ErrClash},
		{nil, []api.Survey{of(1, 500, 600)}, api.Span{}, api.ErrNone},
		{[]api.Survey{of(1, 500, 600)}, nil, api.Span{}, api.ErrNone},
		{nil, nil, api.Span{}, api.ErrNone},
	} {
		d, e := survey.Taken(brig(), exact(), c.before, c.after)
		equal(t, d, c.want, c)
		equal(t, e, c.e, c)
	}
}

// P4.9, P4.15: all differences; of a list and itself, and of both lists the other way round.
func TestTakenByTheWords(t *testing.T) {
	met := map[bool]int{}
	forLists(t, func(d *dice, s api.Ship, b api.Bulbs, l []api.Survey) {
		n := d.between(0, len(l)-1)
		before, after := l[:n+1], l[n:]
		m, e := survey.Taken(s, b, before, after)
		r, f := survey.Taken(s, b, after, before)
		equal(t, f, e, s, b, l)
		all := map[int]bool{}
		for _, p := range possibleOf(t, s, b, before...) {
			for _, q := range possibleOf(t, s, b, after...) {
				all[p-q] = true
			}
		}
		equal(t, m, ends(inOrder(all)), s, b, l)
		equal(t, e == api.OK, len(all) > 0, s, b, l)
		equal(t, e == api.ErrClash, len(all) == 0, s, b, l)
		equal(t, r, span(-m.Hi, -m.Lo), s, b, l)
		own, e := survey.Taken(s, b, l, l)
		equal(t, own.Lo, -own.Hi, s, b, l)
		if all, f := survey.Together(s, b, l); f == api.OK {
			equal(t, own.Hi, all.Hi-all.Lo, s, b, l)
		} else {
			equal(t, e, f, s, b, l)
		}
		met[m != api.Span{}]++
	})
	enough(t, met, 100, true, false)
}
