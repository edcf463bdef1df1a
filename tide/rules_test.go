package tide_test

import (
	"slices"
	"testing"

	"kentledge/api"
	"kentledge/tide"
)

// call is one of the functions that are given a water, with all that any of them is given; empty tells whether the results beside the error are zero.
type call struct {
	name string
	of   func(w api.Water, s api.Span, l []api.Gauge) (e api.Errno, empty bool)
}

// height is what the calls ask for: the example has it nowhere, so that it is an error of Next and Prove.
const height = 500

// inMinutes lists the functions that are given minutes. Some are given what is wrong besides: that comes behind the errors of the water and the minutes.
func inMinutes() []call {
	return []call{
		{"Highest", func(w api.Water, s api.Span, _ []api.Gauge) (api.Errno, bool) {
			h, at, e := tide.Highest(w, s)
			return e, h == 0 && at == 0
		}},
		{"Lowest", func(w api.Water, s api.Span, _ []api.Gauge) (api.Errno, bool) {
			h, at, e := tide.Lowest(w, s)
			return e, h == 0 && at == 0
		}},
		{"Stands", func(w api.Water, s api.Span, _ []api.Gauge) (api.Errno, bool) {
			l, e := tide.Stands(w, s)
			return e, len(l) == 0
		}},
		{"HighWaters", func(w api.Water, s api.Span, _ []api.Gauge) (api.Errno, bool) {
			l, e := tide.HighWaters(w, s)
			return e, len(l) == 0
		}},
		{"LowWaters", func(w api.Water, s api.Span, _ []api.Gauge) (api.Errno, bool) {
			l, e := tide.LowWaters(w, s)
			return e, len(l) == 0
		}},
		{"Windows", func(w api.Water, s api.Span, _ []api.Gauge) (api.Errno, bool) {
			l, e := tide.Windows(w, s, height)
			return e, len(l) == 0
		}},
		{"Next", func(w api.Water, s api.Span, _ []api.Gauge) (api.Errno, bool) {
			p, e := tide.Next(w, s, height, 1)
			return e, p == api.Span{}
		}},
		{"Next with a wrong length", func(w api.Water, s api.Span, _ []api.Gauge) (api.Errno, bool) {
			p, e := tide.Next(w, s, height, 0)
			return e, p == api.Span{}
		}},
		{"Minutes", func(w api.Water, s api.Span, _ []api.Gauge) (api.Errno, bool) {
			n, e := tide.Minutes(w, s, height)
			return e, n == 0
		}},
		{"Prove", func(w api.Water, s api.Span, _ []api.Gauge) (api.Errno, bool) {
			l, e := tide.Prove(w, s, height)
			return e, len(l) == 0
		}},
		{"CheckProof", func(w api.Water, s api.Span, _ []api.Gauge) (api.Errno, bool) {
			return tide.CheckProof(w, s, height, []int{-1}), true
		}},
		{"CheckProof with too many cuts", func(w api.Water, s api.Span, _ []api.Gauge) (api.Errno, bool) {
			return tide.CheckProof(w, s, height, make([]int, api.MaxCuts+1)), true
		}},
		{"Same, first", func(w api.Water, s api.Span, _ []api.Gauge) (api.Errno, bool) {
			at, same, e := tide.Same(w, api.Water{}, s)
			return e, at == 0 && !same
		}},
		{"Same, second", func(w api.Water, s api.Span, _ []api.Gauge) (api.Errno, bool) {
			at, same, e := tide.Same(api.Water{}, w, s)
			return e, at == 0 && !same
		}},
	}
}

// atGauges lists the functions that are given gauges.
func atGauges() []call {
	return []call{
		{"Levels", func(w api.Water, _ api.Span, l []api.Gauge) (api.Errno, bool) {
			s, e := tide.Levels(w, l)
			return e, s == api.Span{}
		}},
		{"Rests", func(w api.Water, _ api.Span, l []api.Gauge) (api.Errno, bool) {
			lo, hi, e := tide.Rests(w, l)
			return e, lo == 0 && hi == 0
		}},
		{"Clashes", func(w api.Water, _ api.Span, l []api.Gauge) (api.Errno, bool) {
			p, e := tide.Clashes(w, l)
			return e, len(p) == 0
		}},
		{"Suspects", func(w api.Water, _ api.Span, l []api.Gauge) (api.Errno, bool) {
			ids, e := tide.Suspects(w, l)
			return e, len(ids) == 0
		}},
		{"Shown", func(w api.Water, _ api.Span, l []api.Gauge) (api.Errno, bool) {
			ids, e := tide.Shown(w, l)
			return e, len(ids) == 0
		}},
		{"Excluded", func(w api.Water, _ api.Span, l []api.Gauge) (api.Errno, bool) {
			ids, e := tide.Excluded(w, l)
			return e, len(ids) == 0
		}},
	}
}

func fails(t *testing.T, k call, w api.Water, s api.Span, l []api.Gauge, want api.Errno) {
	t.Helper()
	e, empty := k.of(w, s, l)
	equal(t, e, want, k.name, w, s, l)
	if !empty {
		t.Error("results beside an error", k.name, w, s, l)
	}
}

// P2.1, R3, R4: the error of the water comes before all others.
func TestErrorsOfWatersComeFirst(t *testing.T) {
	twice := api.Water{Cycles: []api.Cycle{one(), one()}}
	for _, k := range slices.Concat(inMinutes(), atGauges()) {
		for _, s := range []api.Span{span(5, 4), span(0, api.MaxWatched)} {
			for _, l := range [][]api.Gauge{{{}}, make([]api.Gauge, api.MaxGauges+1)} {
				fails(t, k, api.Water{Level: 4001}, s, l, api.ErrArg)
				fails(t, k, tooMany(), s, l, api.ErrLimit)
				fails(t, k, twice, s, l, api.ErrTwice)
			}
		}
	}
	for w, want := range map[*api.Water]api.Errno{{Level: 4001}: api.ErrArg, {Cycles: make([]api.Cycle, 7)}: api.ErrLimit, &twice: api.ErrTwice} {
		for _, tick := range []int{0, -1} {
			h, e := tide.Height(*w, tick)
			equal(t, h, 0)
			equal(t, e, want)
		}
	}
}

// P2.1, P2.8: Same looks at the first water, then at the second one, then at the minutes.
func TestErrorsOfSame(t *testing.T) {
	bad, many, twice := api.Water{Level: 4001}, tooMany(), api.Water{Cycles: []api.Cycle{one(), one()}}
	for _, c := range []struct {
		a, b api.Water
		s    api.Span
		want api.Errno
	}{
		{bad, many, span(5, 4), api.ErrArg},
		{many, bad, span(5, 4), api.ErrLimit},
		{twice, many, span(0, 9), api.ErrTwice},
		{example(), twice, span(5, 4), api.ErrTwice},
		{twice, example(), span(0, api.MaxWatched), api.ErrTwice},
		{example(), example(), span(5, 4), api.ErrArg},
		{example(), example(), span(0, api.MaxWatched), api.ErrLimit},
	} {
		at, same, e := tide.Same(c.a, c.b, c.s)
		equal(t, at, 0, c)
		equal(t, same, false, c)
		equal(t, e, c.want, c)
	}
}

// P2.1, R3, R4: wrong minutes, then too many of them, before all that a function looks at besides.
func TestErrorsOfMinutes(t *testing.T) {
	for _, k := range inMinutes() {
		for _, s := range []api.Span{span(5, 4), span(-1, 4), span(5, api.MaxTick+1), span(-1, -1), span(api.MaxTick+1, api.MaxTick+1), span(-1, api.MaxTick+1), span(api.MaxTick, 0), span(minInt, maxInt), span(maxInt, minInt), span(minInt, 4), span(4, maxInt), span(-20000, 4)} {
			fails(t, k, example(), s, nil, api.ErrArg)
		}
		for _, s := range []api.Span{span(0, api.MaxWatched), span(0, api.MaxTick), span(api.MaxTick-api.MaxWatched, api.MaxTick)} {
			fails(t, k, example(), s, nil, api.ErrLimit)
		}
	}
}

// P2.1: as many minutes as can be looked at, up to the first and the last one, are right.
func TestMostMinutes(t *testing.T) {
	for _, s := range []api.Span{span(0, api.MaxWatched-1), span(api.MaxTick-api.MaxWatched+1, api.MaxTick)} {
		w := example()
		_, _, e := tide.Highest(w, s)
		equal(t, e, api.OK, s)
		_, _, e = tide.Lowest(w, s)
		equal(t, e, api.OK, s)
		l, e := tide.Stands(w, s)
		sameList(t, l, standsByWords(w, s), s)
		equal(t, e, api.OK, s)
		_, e = tide.HighWaters(w, s)
		equal(t, e, api.OK, s)
		_, e = tide.LowWaters(w, s)
		equal(t, e, api.OK, s)
		_, e = tide.Windows(w, s, 121)
		equal(t, e, api.OK, s)
		p, e := tide.Next(w, s, 100, api.MaxWatched)
		equal(t, p, s)
		equal(t, e, api.OK, s)
		n, e := tide.Minutes(w, s, 100)
		equal(t, n, api.MaxWatched, s)
		equal(t, e, api.OK, s)
		_, e = tide.Prove(w, s, 100)
		equal(t, e, api.OK, s)
		equal(t, tide.CheckProof(w, s, 100, nil), api.OK, s)
		_, same, e := tide.Same(w, w, s)
		equal(t, same, true, s)
		equal(t, e, api.OK, s)
	}
}

// P2.9, R3: the number of gauges, then each of them: wrong, then twice.
func TestErrorsOfGauges(t *testing.T) {
	fine := gauge(1, 0, 0, 5)
	lists := []struct {
		l    []api.Gauge
		want api.Errno
	}{
		{make([]api.Gauge, api.MaxGauges+1), api.ErrLimit},
		{slices.Repeat([]api.Gauge{fine}, api.MaxGauges+1), api.ErrLimit},
		{slices.Repeat([]api.Gauge{fine}, api.MaxGauges), api.ErrTwice},
		{[]api.Gauge{fine, fine}, api.ErrTwice},
		{[]api.Gauge{fine, gauge(2, 0, 0, 5), gauge(1, 9, 8, 9)}, api.ErrTwice},
		{[]api.Gauge{fine, fine, {}}, api.ErrTwice},
		{[]api.Gauge{fine, gauge(1, -1, 0, 5)}, api.ErrArg},
		{[]api.Gauge{fine, {}, fine}, api.ErrArg},
	}
	for _, g := range []api.Gauge{
		{}, gauge(0, 0, 0, 5), gauge(-1, 0, 0, 5), gauge(api.MaxID+1, 0, 0, 5),
		gauge(2, -1, 0, 5), gauge(2, api.MaxTick+1, 0, 5), gauge(2, minInt, 0, 5), gauge(2, maxInt, 0, 5),
		gauge(2, 0, 1, 0), gauge(2, 0, -40001, 0), gauge(2, 0, 0, 40001), gauge(2, 0, -50000, -45000), gauge(2, 0, 45000, 50000), gauge(2, 0, minInt, maxInt), gauge(2, 0, maxInt, minInt),
	} {
		lists = append(lists, struct {
			l    []api.Gauge
			want api.Errno
		}{[]api.Gauge{fine, g}, api.ErrArg})
	}
	for _, k := range atGauges() {
		for _, c := range lists {
			fails(t, k, example(), api.Span{}, c.l, c.want)
		}
		bounds := []api.Gauge{gauge(1, 0, -40000, 40000), gauge(api.MaxID, api.MaxTick, -40000, 40000)}
		e, _ := k.of(example(), api.Span{}, bounds)
		equal(t, e, api.OK, k.name)
	}
}

// P2.9, P2.10, R4: functions that fail because of a clash return nothing besides.
func TestErrorsOfClashes(t *testing.T) {
	clash := append(both(), gauge(1, 0, 150, 151))
	for _, k := range atGauges() {
		switch k.name {
		case "Levels", "Rests", "Shown":
			fails(t, k, example(), api.Span{}, clash, api.ErrClash)
		default:
			e, _ := k.of(example(), api.Span{}, clash)
			equal(t, e, api.OK, k.name)
		}
	}
}

// stuffed returns a list that is followed by more memory, and all of that memory.
func stuffed[T any](l []T, with T) ([]T, []T) {
	all := append(slices.Clone(l), slices.Repeat([]T{with}, 50)...)
	return all[:len(l)], all
}

// R6: arguments stay as they are, behind their end as well.
func TestArgumentsStay(t *testing.T) {
	heights, memHeights := stuffed([]int{0, 30, 20, 0, 30, 20}, 88)
	w := api.Water{Level: 100}
	var memCycles []api.Cycle
	var memShifts []api.Shift
	w.Cycles, memCycles = stuffed([]api.Cycle{cycle(9, 10, 5, heights...), two(), cycle(1, 0, 3, 1, 2)}, cycle(77, 7, 7, 7))
	w.Cycles[0].Heights = heights
	w.Shifts, memShifts = stuffed([]api.Shift{{From: 1, To: 1, Add: 7}, {From: 2, To: 4, Add: 1}}, api.Shift{From: 77})
	l, memGauges := stuffed([]api.Gauge{gauge(7, 12, 100, 110), gauge(4, 15, 133, 140), gauge(2, 0, 0, 1), gauge(3, 0, 150, 151)}, gauge(77, 7, 7, 7))
	cuts, memCuts := stuffed([]int{1, 3}, 88)
	keptHeights, keptCycles, keptShifts, keptGauges, keptCuts := slices.Clone(memHeights), slices.Clone(memCycles), slices.Clone(memShifts), slices.Clone(memGauges), slices.Clone(memCuts)
	for _, k := range slices.Concat(inMinutes(), atGauges()) {
		k.of(w, span(1400, 1500), l)
		k.of(w, span(0, 99), l[:2])
	}
	equal(t, tide.CheckProof(cross(), span(0, 3), 5, cuts), api.OK)
	for _, c := range w.Cycles {
		tide.Shortest(c)
		tide.Together(c, w.Cycles[0])
		tide.Apart(c)
	}
	tide.Apart(cycle(1, 0, 1, heights[1:3]...))
	sameList(t, memHeights, keptHeights)
	sameList(t, memShifts, keptShifts)
	sameList(t, memGauges, keptGauges)
	sameList(t, memCuts, keptCuts)
	for i, c := range keptCycles {
		sameCycle(t, memCycles[i], c)
	}
}

// R6: results are new memory: changing one changes neither an argument nor a later result.
func TestResultsAreNew(t *testing.T) {
	makers := map[string]func(c api.Cycle) (api.Cycle, api.Errno){
		"Shortest":          tide.Shortest,
		"Shortest of twice": func(c api.Cycle) (api.Cycle, api.Errno) { c.Heights = c.Heights[:2]; return tide.Shortest(c) },
		"Together":          func(c api.Cycle) (api.Cycle, api.Errno) { return tide.Together(c, c) },
		"Apart": func(c api.Cycle) (api.Cycle, api.Errno) {
			_, r, e := tide.Apart(c)
			return r, e
		},
	}
	for name, of := range makers {
		heights, mem := stuffed([]int{4, 4, 30, 20}, 88)
		kept := slices.Clone(mem)
		c := cycle(1, 2, 3)
		c.Heights = heights
		first, e := of(c)
		good(t, e, name)
		second, e := of(c)
		good(t, e, name)
		want := slices.Clone(second.Heights)
		for i := range first.Heights {
			first.Heights[i] = -5
		}
		first.Heights = append(first.Heights, -6)
		sameList(t, mem, kept, name)
		sameList(t, second.Heights, want, name)
	}
}

// R7: results do not depend on the order of cycles or gauges, but where they say so, nor on earlier calls.
func TestOrderDoesNotMatter(t *testing.T) {
	forGauges(t, func(d *dice, w api.Water, l []api.Gauge) {
		turned, back := w, slices.Clone(l)
		turned.Cycles = slices.Clone(w.Cycles)
		slices.Reverse(turned.Cycles)
		slices.Reverse(back)
		a, e := tide.Clashes(w, l)
		b, f := tide.Clashes(turned, back)
		sameList(t, a, b, w, l)
		equal(t, e, f, w, l)
		shown, e := tide.Shown(w, l)
		again, f := tide.Shown(turned, back)
		sameList(t, shown, again, w, l)
		equal(t, e, f, w, l)
		s := d.minutes(24)
		p, e := tide.Stands(w, s)
		q, f := tide.Stands(turned, s)
		sameList(t, p, q, w, s)
		equal(t, e, f, w, s)
	})
}
