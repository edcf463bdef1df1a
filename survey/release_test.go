package survey_test

import (
	"slices"
	"testing"

	"kentledge/api"
	"kentledge/hull"
	"kentledge/survey"
)

// barge is a ship with room for more than a load can have, and a table so flat that a draught says little.
func barge() api.Ship {
	s := bare(curveOf(0, 10, 100, 210, 120))
	s.Meta = curveOf(0, 10, 160, 210, 160)
	s.Holds = []api.Hold{{ID: 1, Room: 8000}}
	return s
}

// P4.10: the spans of the holds, and the masses less that of the empty ship.
func TestLoad(t *testing.T) {
	for _, c := range []struct {
		name string
		s    api.Ship
		l    []api.Survey
		want api.Load
		e    api.Errno
	}{
		{"one", brig(), []api.Survey{of(1, 600, 700)}, api.Load{Holds: []api.Span{span(0, 400), span(0, 400)}, All: span(200, 300)}, api.OK},
		{"two", brig(), []api.Survey{of(1, 600, 700), of(2, 650, 900)}, api.Load{Holds: []api.Span{span(0, 400), span(0, 400)}, All: span(250, 300)}, api.OK},
		{"empty", brig(), []api.Survey{of(1, 400, 400)}, api.Load{Holds: []api.Span{span(0, 400), span(0, 400)}, All: at(0)}, api.OK},
		{"full", brig(), []api.Survey{level(1, span(490, 520))}, api.Load{Holds: []api.Span{span(0, 400), span(0, 400)}, All: span(780, 800)}, api.OK},
		{"no holds", bare(curveOf(0, 10, 100)), []api.Survey{level(1, at(100))}, api.Load{All: at(0)}, api.OK},
		{"as many totals as can be", barge(), []api.Survey{level(1, span(101, 110))}, api.Load{Holds: []api.Span{span(0, 8000)}, All: span(400, 4000)}, api.OK},
		{"more totals than can be", barge(), []api.Survey{level(1, span(101, 111))}, api.Load{Holds: []api.Span{span(0, 8000)}, All: span(400, 4400)}, api.ErrLimit},
		{"fewer by another survey", barge(), []api.Survey{level(1, span(101, 111)), level(2, span(102, 120))}, api.Load{Holds: []api.Span{span(0, 8000)}, All: span(800, 4400)}, api.OK},
		{"a clash", brig(), []api.Survey{of(1, 600, 700), of(2, 702, 900)}, api.Load{}, api.ErrClash},
		{"no mass", brig(), []api.Survey{level(1, at(1))}, api.Load{}, api.ErrClash},
		{"no survey", brig(), nil, api.Load{}, api.ErrNone},
	} {
		load, e := survey.Load(c.s, exact(), c.l)
		equal(t, e, c.e, c.name)
		if e != api.OK {
			c.want = api.Load{}
		}
		equal(t, load.All, c.want.All, c.name)
		sameList(t, load.Holds, c.want.Holds, c.name)
	}
}

// P4.10: 4000 totals, and 4001.
func TestLoadAtTheLimit(t *testing.T) {
	s := barge()
	for _, c := range []struct {
		shown api.Span
		want  int
		e     api.Errno
	}{
		{span(1000, 1000), 3601, api.OK}, {span(950, 1000), 3641, api.OK}, {span(1000, 1090), 3997, api.OK}, {span(999, 1090), 3997, api.OK},
		{span(998, 1090), 3998, api.OK}, {span(996, 1090), 4000, api.OK}, {span(995, 1090), 4001, api.ErrLimit}, {span(1000, 1091), 4001, api.ErrLimit},
	} {
		x := level(1, span(101, 110))
		x.Shown = c.shown
		m, e := survey.Mass(s, exact(), x)
		good(t, e, c)
		equal(t, m.Hi-m.Lo+1, c.want, c)
		load, e := survey.Load(s, exact(), []api.Survey{x})
		equal(t, e, c.e, c)
		equal(t, load.All == span(m.Lo-400, m.Hi-400), e == api.OK, c)
		is, e := survey.Release(s, exact(), []api.Survey{x}, -1, -1)
		equal(t, is, false, c)
		equal(t, e == api.ErrLimit, c.e == api.ErrLimit, c)
		equal(t, e == api.ErrArg, c.e == api.OK, c)
	}
}

// P4.10: steady or not, clear or not, and what is no depth.
func TestRelease(t *testing.T) {
	light, deep := []api.Survey{of(1, 400, 420)}, []api.Survey{of(1, 400, 800)}
	_, steady, e := hull.Steady(brig(), api.Load{Holds: []api.Span{span(0, 400), span(0, 400)}, All: span(0, 400)})
	equal(t, steady, false)
	equal(t, e, api.OK)
	down, _, e := hull.Deepest(brig(), api.Load{Holds: []api.Span{span(0, 400), span(0, 400)}, All: span(0, 20)})
	equal(t, down, 160)
	equal(t, e, api.OK)
	for _, c := range []struct {
		l           []api.Survey
		depth, keel int
		want        bool
		e           api.Errno
	}{
		{light, 160, 0, true, api.OK},
		{light, 159, 0, false, api.OK},
		{light, 170, 10, true, api.OK},
		{light, 170, 11, false, api.OK},
		{light, 0, 0, false, api.OK},
		{light, api.MaxY, 0, true, api.OK},
		{light, api.MaxY, api.MaxTall, true, api.OK},
		{light, 160, api.MaxTall, false, api.OK},
		{light, -1, 0, false, api.ErrArg},
		{light, api.MaxY + 1, 0, false, api.ErrArg},
		{light, 160, -1, false, api.ErrArg},
		{light, 160, api.MaxTall + 1, false, api.ErrArg},
		{light, minInt, maxInt, false, api.ErrArg},
		{light, maxInt, minInt, false, api.ErrArg},
		{deep, api.MaxY, 0, false, api.OK},
		{deep, 0, 0, false, api.OK},
		{deep, -1, 0, false, api.ErrArg},
		{deep, 0, -1, false, api.ErrArg},
		{[]api.Survey{of(1, 400, 420), of(2, 422, 430)}, -1, 0, false, api.ErrClash},
		{nil, -1, 0, false, api.ErrNone},
	} {
		is, e := survey.Release(brig(), exact(), c.l, c.depth, c.keel)
		equal(t, is, c.want, c)
		equal(t, e, c.e, c)
	}
}

// P4.10, P4.16: she is released exactly if she is steady, and clear, in each loading that she can have.
func TestReleaseByTheWords(t *testing.T) {
	met := map[string]int{}
	forLists(t, func(d *dice, s api.Ship, b api.Bulbs, l []api.Survey) {
		load, e := survey.Load(s, b, l)
		depth, keel := d.between(0, 250), d.between(0, 9)
		is, f := survey.Release(s, b, l, depth, keel)
		equal(t, f, e, s, b, l)
		if e != api.OK {
			equal(t, e, api.ErrClash, s, b, l)
			equal(t, is, false, s, b, l)
			return
		}
		steady, clears := true, true
		all := possibleOf(t, s, b, l...)
		equal(t, load.All, span(all[0]-s.Light, all[len(all)-1]-s.Light), s, b, l)
		for _, x := range loadings(s, 1+fullOf(s)/40) {
			m, e := hull.Displacement(s, x)
			good(t, e, s, x)
			equal(t, hull.Fits(s, load, x), slices.Contains(all, m), s, b, l, x)
			if !slices.Contains(all, m) {
				continue
			}
			stiff, e := hull.Stiff(s, x)
			good(t, e, s, x)
			steady = steady && stiff.Num >= s.Least*stiff.Den
			a, e := hull.Afloat(s, x)
			good(t, e, s, x)
			clears = clears && max(a.Fore.Hi, a.Aft.Hi)+keel <= depth
		}
		if is {
			equal(t, steady && clears, true, s, b, l, depth, keel)
		}
		_, wantSteady, _ := hull.Steady(s, load)
		wantClear, _ := hull.Clear(s, load, depth, keel)
		equal(t, is, wantSteady && wantClear, s, b, l, depth, keel)
		switch {
		case is:
			met["released"]++
		case wantClear:
			met["not steady"]++
		case wantSteady:
			met["not clear"]++
		}
	})
	enough(t, met, 50, "released", "not steady", "not clear")
}

// loadings returns loadings of a ship, by steps, with all holds empty or full among them.
func loadings(s api.Ship, step int) [][]int {
	l := [][]int{{}}
	for _, h := range s.Holds {
		var longer [][]int
		for _, x := range l {
			for m := 0; m < h.Room; m += step {
				longer = append(longer, append(slices.Clone(x), m))
			}
			longer = append(longer, append(slices.Clone(x), h.Room))
		}
		l = longer
	}
	return l
}
