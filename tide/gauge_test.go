package tide_test

import (
	"slices"
	"testing"

	"kentledge/api"
	"kentledge/tide"
)

// both are the gauges of the chapter's examples.
func both() []api.Gauge { return []api.Gauge{gauge(3, 12, 100, 110), gauge(4, 15, 133, 140)} }

// P2.9
func TestLevelsRests(t *testing.T) {
	still := api.Water{Level: 77}
	many := []api.Gauge{}
	for i := range api.MaxGauges {
		many = append(many, gauge(api.MaxGauges-i, i, -i, 100-i))
	}
	for _, c := range []struct {
		name   string
		w      api.Water
		l      []api.Gauge
		want   api.Span
		lo, hi int
		e      api.Errno
	}{
		{"example", example(), both(), span(101, 108), 4, 3, api.OK},
		{"no gauge", example(), nil, span(-4000, 4000), 0, 0, api.OK},
		{"no gauge, but a list", still, []api.Gauge{}, span(-4000, 4000), 0, 0, api.OK},
		{"one gauge", still, []api.Gauge{gauge(9, 5, -10, 20)}, span(-10, 20), 9, 9, api.OK},
		{"one level", still, []api.Gauge{gauge(9, 5, 20, 20)}, span(20, 20), 9, 9, api.OK},
		{"one level of two", still, []api.Gauge{gauge(9, 5, -5, 20), gauge(2, 0, 20, 30)}, span(20, 20), 2, 9, api.OK},
		{"the shift matters", example(), []api.Gauge{gauge(3, 1452, 107, 117)}, span(98, 108), 3, 3, api.OK},
		{"the least ID first", still, []api.Gauge{gauge(2, 0, 0, 9), gauge(1, 1, 0, 9)}, span(0, 9), 1, 1, api.OK},
		{"the least ID last", still, []api.Gauge{gauge(1, 0, 0, 9), gauge(2, 1, 0, 9)}, span(0, 9), 1, 1, api.OK},
		{"only what bounds", still, []api.Gauge{gauge(1, 0, -50, 50), gauge(7, 1, 0, 40), gauge(5, 2, -9, 9), gauge(6, 2, 0, 9)}, span(0, 9), 6, 5, api.OK},
		{"all levels and more", still, []api.Gauge{gauge(1, 0, -40000, 40000)}, span(-4000, 4000), 0, 0, api.OK},
		{"just all levels", still, []api.Gauge{gauge(1, 0, -4000, 4000)}, span(-4000, 4000), 0, 0, api.OK},
		{"all but the outer ones", still, []api.Gauge{gauge(1, 0, -3999, 4001), gauge(2, 0, -4001, 3999)}, span(-3999, 3999), 1, 2, api.OK},
		{"bounded above", still, []api.Gauge{gauge(1, 0, -5000, 7)}, span(-4000, 7), 0, 1, api.OK},
		{"bounded below", still, []api.Gauge{gauge(1, 0, 7, 5000)}, span(7, 4000), 1, 0, api.OK},
		{"the greatest level", still, []api.Gauge{gauge(1, 0, 4000, 4001)}, span(4000, 4000), 1, 0, api.OK},
		{"the least level", still, []api.Gauge{gauge(1, 0, -4001, -4000)}, span(-4000, -4000), 0, 1, api.OK},
		{"above all levels", still, []api.Gauge{gauge(1, 0, 4001, 4002)}, api.Span{}, 0, 0, api.ErrClash},
		{"below all levels", still, []api.Gauge{gauge(1, 0, -4002, -4001)}, api.Span{}, 0, 0, api.ErrClash},
		{"two that clash", still, []api.Gauge{gauge(1, 0, 0, 5), gauge(2, 0, 6, 9)}, api.Span{}, 0, 0, api.ErrClash},
		{"the last minute", still, []api.Gauge{gauge(1, api.MaxTick, 0, 5)}, span(0, 5), 1, 1, api.OK},
		{"as many as there can be", still, many, span(0, 61), 40, 1, api.OK},
	} {
		s, e := tide.Levels(c.w, c.l)
		equal(t, s, c.want, c.name)
		equal(t, e, c.e, c.name)
		lo, hi, e := tide.Rests(c.w, c.l)
		equal(t, [2]int{lo, hi}, [2]int{c.lo, c.hi}, c.name)
		equal(t, e, c.e, c.name)
	}
}

// P2.9: the level of the water itself does not matter.
func TestLevelDoesNotMatter(t *testing.T) {
	for _, level := range []int{-4000, 0, 4000} {
		w := example()
		w.Level = level
		s, e := tide.Levels(w, both())
		equal(t, s, span(101, 108), level)
		equal(t, e, api.OK, level)
	}
}

// against returns the least ID of a gauge that does not agree with a level.
func against(w api.Water, l []api.Gauge, level int) int {
	id := 0
	for _, g := range l {
		read := level + heightByWords(w, g.Tick) - w.Level
		if (read < g.Read.Lo || g.Read.Hi < read) && (id == 0 || g.ID < id) {
			id = g.ID
		}
	}
	return id
}

// P2.9: Levels and Rests are what the chapter's words say.
func TestLevelsByWords(t *testing.T) {
	forGauges(t, func(d *dice, w api.Water, l []api.Gauge) {
		fine := levelsByWords(w, l)
		want, wantE, rests := api.Span{}, api.ErrClash, [2]int{}
		if len(fine) > 0 {
			want, wantE = span(fine[0], fine[len(fine)-1]), api.OK
			if want.Lo > -api.MaxTide {
				rests[0] = against(w, l, want.Lo-1)
			}
			if want.Hi < api.MaxTide {
				rests[1] = against(w, l, want.Hi+1)
			}
		}
		s, e := tide.Levels(w, l)
		equal(t, s, want, w, l)
		equal(t, e, wantE, w, l)
		lo, hi, e := tide.Rests(w, l)
		equal(t, [2]int{lo, hi}, rests, w, l)
		equal(t, e, wantE, w, l)
	})
}

// P2.9
func TestClashesSuspects(t *testing.T) {
	still := api.Water{}
	low, middle, high := gauge(5, 0, 0, 9), gauge(2, 0, 5, 15), gauge(8, 0, 10, 19)
	off, far := gauge(9, 0, 4001, 4005), gauge(1, 0, -40000, -39999)
	for _, c := range []struct {
		name     string
		w        api.Water
		l        []api.Gauge
		pairs    [][2]int
		suspects []int
	}{
		{"example", example(), both(), nil, nil},
		{"no gauge", example(), nil, nil, nil},
		{"one pair", still, []api.Gauge{low, high}, [][2]int{{5, 8}}, []int{5, 8}},
		{"the lesser one first", still, []api.Gauge{high, low}, [][2]int{{5, 8}}, []int{5, 8}},
		{"one between", still, []api.Gauge{high, middle, low}, [][2]int{{5, 8}}, []int{5, 8}},
		{"one against two", still, []api.Gauge{high, gauge(3, 0, 0, 6), low}, [][2]int{{3, 8}, {5, 8}}, []int{8}},
		{"two against two", still, []api.Gauge{high, gauge(3, 0, 0, 6), low, gauge(7, 0, 11, 12)}, [][2]int{{3, 7}, {3, 8}, {5, 7}, {5, 8}}, nil},
		{"three at odds", still, []api.Gauge{high, low, gauge(6, 0, 30, 31)}, [][2]int{{5, 6}, {5, 8}, {6, 8}}, nil},
		{"one with itself", still, []api.Gauge{off}, [][2]int{{9, 9}}, []int{9}},
		{"one with itself, and others", still, []api.Gauge{off, low, middle}, [][2]int{{9, 9}}, []int{9}},
		{"two with themselves", still, []api.Gauge{off, far}, [][2]int{{1, 1}, {9, 9}}, nil},
		{"one with itself, and a pair", still, []api.Gauge{off, high, low}, [][2]int{{5, 8}, {9, 9}}, nil},
		{"the same span beyond all levels", still, []api.Gauge{gauge(4, 0, 4001, 4005), off}, [][2]int{{4, 4}, {9, 9}}, nil},
		{"they meet at one level", still, []api.Gauge{gauge(1, 0, 0, 5), gauge(2, 0, 5, 9)}, nil, nil},
		{"they meet at the last level", still, []api.Gauge{gauge(1, 0, 0, 4000), gauge(2, 0, 4000, 5000)}, nil, nil},
		{"they miss by one", still, []api.Gauge{gauge(1, 0, 0, 5), gauge(2, 0, 6, 9)}, [][2]int{{1, 2}}, []int{1, 2}},
		{"the cycles matter", example(), append(both(), gauge(1, 0, 150, 151), gauge(9, 0, 30000, 30001)), [][2]int{{1, 3}, {1, 4}, {9, 9}}, nil},
		{"the cycles matter once more", example(), append(both(), gauge(1, 0, 150, 151)), [][2]int{{1, 3}, {1, 4}}, []int{1}},
		{"great IDs", still, []api.Gauge{gauge(api.MaxID, 0, 0, 5), gauge(1, 0, 6, 9)}, [][2]int{{1, api.MaxID}}, []int{1, api.MaxID}},
	} {
		pairs, e := tide.Clashes(c.w, c.l)
		sameList(t, pairs, c.pairs, c.name)
		equal(t, e, api.OK, c.name)
		ids, e := tide.Suspects(c.w, c.l)
		sameList(t, ids, c.suspects, c.name)
		equal(t, e, api.OK, c.name)
	}
}

// P2.9: Clashes and Suspects are what the chapter's words say.
func TestClashesByWords(t *testing.T) {
	fits := func(w api.Water, l ...api.Gauge) bool { return len(levelsByWords(w, l)) > 0 }
	forGauges(t, func(d *dice, w api.Water, l []api.Gauge) {
		var pairs [][2]int
		var suspects []int
		for i, a := range l {
			if !fits(w, a) {
				pairs = append(pairs, [2]int{a.ID, a.ID})
			}
			for _, b := range l[i+1:] {
				if fits(w, a) && fits(w, b) && !fits(w, a, b) {
					pairs = append(pairs, [2]int{min(a.ID, b.ID), max(a.ID, b.ID)})
				}
			}
			if !fits(w, l...) && fits(w, left(l, i)...) {
				suspects = append(suspects, a.ID)
			}
		}
		slices.SortFunc(pairs, func(a, b [2]int) int { return slices.Compare(a[:], b[:]) })
		slices.Sort(suspects)
		got, e := tide.Clashes(w, l)
		sameList(t, got, pairs, w, l)
		equal(t, e, api.OK, w, l)
		ids, e := tide.Suspects(w, l)
		sameList(t, ids, suspects, w, l)
		equal(t, e, api.OK, w, l)
	})
}

// P2.10
func TestShownExcluded(t *testing.T) {
	steady := api.Water{Cycles: []api.Cycle{cycle(7, 0, 10, 3, 3), cycle(4, 0, 10, 0, 20)}}
	double := api.Water{Cycles: []api.Cycle{cycle(7, 0, 10, 0, 20), cycle(4, 0, 10, 0, 20)}}
	lone := api.Water{Cycles: []api.Cycle{cycle(5, 0, 1, 4000)}}
	for _, c := range []struct {
		name            string
		w               api.Water
		l               []api.Gauge
		shown, excluded []int
		e               api.Errno
	}{
		{"example", example(), both(), []int{1}, nil, api.OK},
		{"no gauge", example(), nil, nil, nil, api.OK},
		{"no cycle", api.Water{}, both()[:1], nil, nil, api.OK},
		{"no cycle, and a clash", api.Water{}, []api.Gauge{gauge(1, 0, 0, 5), gauge(2, 0, 6, 9)}, nil, nil, api.ErrClash},
		{"the tide is flat", example(), []api.Gauge{gauge(1, 0, 101, 101), gauge(2, 10, 102, 102)}, nil, []int{1}, api.ErrClash},
		{"one that comes and goes", steady, []api.Gauge{gauge(1, 5, 10, 12), gauge(2, 15, 30, 32)}, []int{4}, nil, api.OK},
		{"one that does not", steady, []api.Gauge{gauge(1, 5, 10, 12), gauge(2, 15, 10, 12)}, nil, []int{4}, api.ErrClash},
		{"any of two is too much", double, []api.Gauge{gauge(1, 5, 10, 12), gauge(2, 15, 30, 32)}, nil, []int{4, 7}, api.ErrClash},
		{"both are needed", double, []api.Gauge{gauge(1, 5, 10, 12), gauge(2, 15, 50, 52)}, []int{4, 7}, nil, api.OK},
		{"both are too much", double, []api.Gauge{gauge(1, 5, 10, 12), gauge(2, 15, 10, 12)}, nil, nil, api.ErrClash},
		{"without it the level would be too great", lone, []api.Gauge{gauge(1, 0, 8000, 9000)}, []int{5}, nil, api.OK},
		{"with it the level would be too low", lone, []api.Gauge{gauge(1, 0, -4000, -1)}, nil, []int{5}, api.ErrClash},
	} {
		ids, e := tide.Shown(c.w, c.l)
		sameList(t, ids, c.shown, c.name)
		equal(t, e, c.e, c.name)
		ids, e = tide.Excluded(c.w, c.l)
		sameList(t, ids, c.excluded, c.name)
		equal(t, e, api.OK, c.name)
	}
}

// P2.10: Shown and Excluded are what the chapter's words say.
func TestShownByWords(t *testing.T) {
	forGauges(t, func(d *dice, w api.Water, l []api.Gauge) {
		all := len(levelsByWords(w, l)) > 0
		var shown, excluded []int
		for i, c := range w.Cycles {
			rest := w
			rest.Cycles = left(w.Cycles, i)
			fits := len(levelsByWords(rest, l)) > 0
			if all && !fits {
				shown = append(shown, c.ID)
			}
			if !all && fits {
				excluded = append(excluded, c.ID)
			}
		}
		slices.Sort(shown)
		slices.Sort(excluded)
		wantE := api.OK
		if !all {
			wantE = api.ErrClash
		}
		ids, e := tide.Shown(w, l)
		sameList(t, ids, shown, w, l)
		equal(t, e, wantE, w, l)
		ids, e = tide.Excluded(w, l)
		sameList(t, ids, excluded, w, l)
		equal(t, e, api.OK, w, l)
	})
}
