package tide_test

import (
	"slices"
	"testing"

	"kentledge/api"
	"kentledge/tide"
)

func contains(outer, inner api.Span) bool { return outer.Lo <= inner.Lo && inner.Hi <= outer.Hi }

// eachInOne fails unless each span of a list lies in one of another list.
func eachInOne(t *testing.T, inner, outer []api.Span, about ...any) {
	t.Helper()
	for _, p := range inner {
		if !slices.ContainsFunc(outer, func(q api.Span) bool { return contains(q, p) }) {
			t.Error(p, "lies in none of", outer, about)
		}
	}
}

func heightsOf(t *testing.T, w api.Water, s api.Span) []int {
	t.Helper()
	var l []int
	for tick := s.Lo; tick <= s.Hi; tick++ {
		h, e := tide.Height(w, tick)
		good(t, e, w, tick)
		l = append(l, h)
	}
	return l
}

func windowsOf(t *testing.T, w api.Water, s api.Span, height int) []api.Span {
	t.Helper()
	l, e := tide.Windows(w, s, height)
	good(t, e, w, s, height)
	return l
}

// P2.11
func TestAgainAndAgain(t *testing.T) {
	forWaters(t, func(d *dice, w api.Water, s api.Span) {
		for _, c := range w.Cycles {
			long := c.Every * len(c.Heights)
			equal(t, value(t, c, s.Lo), value(t, c, s.Lo+long), c, s)
			equal(t, value(t, c, s.Hi), value(t, c, s.Hi+3*long), c, s)
		}
		more, by := w, d.between(1, 5)
		more.Level = min(w.Level+by, api.MaxTide)
		by = more.Level - w.Level
		higher := heightsOf(t, more, s)
		for i, h := range heightsOf(t, w, s) {
			equal(t, higher[i], h+by, w, s)
		}
		low, at, e := tide.Lowest(w, s)
		good(t, e)
		least, from, e := tide.Lowest(more, s)
		good(t, e)
		equal(t, [2]int{least, from}, [2]int{low + by, at}, w, s)
	})
}

// P2.12
func TestWindowsAreJustTheHighMinutes(t *testing.T) {
	forWaters(t, func(d *dice, w api.Water, s api.Span) {
		height := heightByWords(w, d.between(s.Lo, s.Hi)) + d.between(0, 1)
		l := windowsOf(t, w, s, height)
		for i, h := range heightsOf(t, w, s) {
			tick := s.Lo + i
			in := slices.ContainsFunc(l, func(p api.Span) bool { return contains(p, span(tick, tick)) })
			equal(t, in, h >= height, w, s, height, tick)
		}
		for i := 1; i < len(l); i++ {
			between := heightsOf(t, w, span(l[i-1].Hi+1, l[i].Lo-1))
			if len(between) == 0 || slices.Min(between) >= height {
				t.Error("no low minute between two windows", w, s, height)
			}
		}
		eachInOne(t, l, windowsOf(t, w, s, height-d.between(0, 3)), w, s, height)
	})
}

// P2.13
func TestStandsFollowEachOther(t *testing.T) {
	forWaters(t, func(d *dice, w api.Water, s api.Span) {
		l, e := tide.Stands(w, s)
		good(t, e, w, s)
		at := s.Lo
		for i, p := range l {
			equal(t, p.Span.Lo, at, w, s)
			at = p.Span.Hi + 1
			if i > 0 && l[i-1].Height == p.Height {
				t.Error("neighbours of the same height", w, s, p)
			}
		}
		equal(t, at, s.Hi+1, w, s)
		high, e := tide.HighWaters(w, s)
		good(t, e, w, s)
		low, e := tide.LowWaters(w, s)
		good(t, e, w, s)
		oneBetween(t, high, low, w, s)
		oneBetween(t, low, high, w, s)
	})
}

// oneBetween fails unless one stand of another list lies between each two of a list.
func oneBetween(t *testing.T, l, other []api.Stand, about ...any) {
	t.Helper()
	for i := 1; i < len(l); i++ {
		gap := span(l[i-1].Span.Hi+1, l[i].Span.Lo-1)
		if !slices.ContainsFunc(other, func(p api.Stand) bool { return contains(gap, p.Span) }) {
			t.Error("nothing between", l[i-1], l[i], about)
		}
	}
}

// fewestParts tries all ways to divide a span into parts whose floors are high enough.
func fewestParts(w api.Water, s api.Span, height int) int {
	fewest := []int{0}
	for to := s.Lo; to <= s.Hi; to++ {
		best := maxInt - 1
		for from := s.Lo; from <= to; from++ {
			if floorByWords(w, span(from, to)) >= height {
				best = min(best, fewest[from-s.Lo]+1)
			}
		}
		fewest = append(fewest, best)
	}
	return fewest[len(fewest)-1]
}

// P2.14
func TestProofsProve(t *testing.T) {
	d := &dice{state: 19}
	for range 800 {
		w, s := d.water(4, 40, 4, 4, 2), d.minutes(12)
		lowest := slices.Min(heightsByWords(w, s))
		height := lowest - d.between(0, 2)
		l, e := tide.Prove(w, s, height)
		good(t, e, w, s, height)
		equal(t, tide.CheckProof(w, s, height, l), api.OK, w, s, height)
		equal(t, len(l)+1, fewestParts(w, s, height), w, s, height)
		for i := range l {
			equal(t, tide.CheckProof(w, s, height, left(l, i)), api.ErrProof, w, s, height, i)
		}
		var all []int
		for tick := s.Lo + 1; tick <= s.Hi; tick++ {
			all = append(all, tick)
		}
		equal(t, tide.CheckProof(w, s, lowest, all), api.OK, w, s, lowest)
		equal(t, tide.CheckProof(w, s, lowest+1, all), api.ErrProof, w, s, lowest)
	}
	forWaters(t, func(d *dice, w api.Water, s api.Span) {
		lowest, _, e := tide.Lowest(w, s)
		good(t, e, w, s)
		l, e := tide.Prove(w, s, lowest)
		good(t, e, w, s)
		equal(t, tide.CheckProof(w, s, lowest, l), api.OK, w, s)
		_, e = tide.Prove(w, s, lowest+1)
		equal(t, e, api.ErrNone, w, s)
	})
}

// P2.15
func TestShortestIsTheSame(t *testing.T) {
	d := &dice{state: 23}
	for range 1500 {
		c := d.cycle(1, 40, 4, 4, 1)
		c.Heights = slices.Repeat(c.Heights, d.between(1, 4))
		r, e := tide.Shortest(c)
		good(t, e, c)
		for tick := range 80 {
			equal(t, value(t, r, tick), value(t, c, tick), c, tick)
		}
		for n := 1; n < len(r.Heights); n++ {
			fewer := r
			fewer.Heights = r.Heights[:n]
			differs := false
			for tick := c.Begin; tick < c.Begin+2*c.Every*len(c.Heights); tick++ {
				differs = differs || value(t, fewer, tick) != value(t, c, tick)
			}
			equal(t, differs, true, c, n)
		}
	}
}

// P2.15
func TestTogetherIsTheSum(t *testing.T) {
	d := &dice{state: 29}
	fine := 0
	for range 2000 {
		a, b := d.cycle(1, 40, 6, 5, 9), d.cycle(2, 40, 6, 5, 9)
		if d.between(0, 3) == 0 {
			b.Every, b.Begin = a.Every, a.Begin+d.between(0, 3)*a.Every
		}
		c, e := tide.Together(a, b)
		if e == api.ErrLimit {
			continue
		}
		good(t, e, a, b)
		fine++
		for tick := range 130 {
			equal(t, value(t, c, tick), value(t, a, tick)+value(t, b, tick), a, b, tick)
		}
		w := api.Water{Level: 5, Cycles: []api.Cycle{cycle(7, 1, 3, 1, 2), a, b}, Shifts: example().Shifts}
		put := w
		put.Cycles = []api.Cycle{w.Cycles[0], c}
		_, same, e := tide.Same(w, put, span(1400, 1600))
		equal(t, same, true, a, b)
		equal(t, e, api.OK, a, b)
	}
	if fine < 300 {
		t.Error("too few cycles that can be put together", fine)
	}
}

// P2.15
func TestApartIsTheSame(t *testing.T) {
	forWaters(t, func(d *dice, w api.Water, s api.Span) {
		for i, c := range w.Cycles {
			m, r, e := tide.Apart(c)
			if e == api.ErrRange {
				equal(t, slices.Max(c.Heights)-slices.Min(c.Heights) > api.MaxTide, true, c)
				continue
			}
			good(t, e, c)
			equal(t, m, slices.Min(c.Heights), c)
			for tick := s.Lo; tick <= s.Hi; tick++ {
				equal(t, value(t, r, tick)+m, value(t, c, tick), c, tick)
			}
			put := w
			put.Level += m
			put.Cycles = slices.Clone(w.Cycles)
			put.Cycles[i] = r
			if tide.Check(put) != api.OK {
				continue
			}
			_, same, e := tide.Same(w, put, s)
			equal(t, same, true, w, i)
			equal(t, e, api.OK, w, i)
		}
	})
}

// P2.16
func TestLevelsClashesSuspects(t *testing.T) {
	some := [2]int{}
	forGauges(t, func(d *dice, w api.Water, l []api.Gauge) {
		s, e := tide.Levels(w, l)
		pairs, f := tide.Clashes(w, l)
		good(t, f, w, l)
		equal(t, e == api.OK, len(pairs) == 0, w, l)
		if e == api.OK {
			some[0]++
			for _, level := range []int{s.Lo, s.Hi, d.between(s.Lo, s.Hi)} {
				equal(t, against(w, l, level), 0, w, l, level)
			}
			for _, level := range []int{s.Lo - 1, s.Hi + 1} {
				if -api.MaxTide <= level && level <= api.MaxTide {
					equal(t, against(w, l, level) > 0, true, w, l, level)
				}
			}
			return
		}
		some[1]++
		var inAll []int
		for _, g := range l {
			if !slices.ContainsFunc(pairs, func(p [2]int) bool { return p[0] != g.ID && p[1] != g.ID }) {
				inAll = append(inAll, g.ID)
			}
		}
		slices.Sort(inAll)
		ids, f := tide.Suspects(w, l)
		good(t, f, w, l)
		sameList(t, ids, inAll, w, l)
	})
	if min(some[0], some[1]) < 50 {
		t.Error("too few with levels, or without", some)
	}
}

// P2.17
func TestTrueWater(t *testing.T) {
	d := &dice{state: 31}
	for range 1000 {
		w := d.water(4, 40, 4, 4, 2)
		w.Level = d.between(-api.MaxTide, api.MaxTide)
		var l []api.Gauge
		for i := range d.between(0, 6) {
			tick := d.between(0, 5*api.DayTick)
			h := heightByWords(w, tick)
			l = append(l, gauge(i+1, tick, h-d.between(0, 5), h+d.between(0, 5)))
		}
		told := w
		told.Level = 0
		s, e := tide.Levels(told, l)
		good(t, e, w, l)
		equal(t, contains(s, span(w.Level, w.Level)), true, w, l)
		told.Level = s.Lo
		minutes := d.minutes(24)
		height := heightByWords(w, minutes.Lo) - d.between(0, 2)
		eachInOne(t, windowsOf(t, told, minutes, height), windowsOf(t, w, minutes, height), w, l, height)
	}
}

// P2.18
func TestMoreGauges(t *testing.T) {
	forGauges(t, func(d *dice, w api.Water, l []api.Gauge) {
		s, e := tide.Levels(w, l)
		if e != api.OK {
			return
		}
		more := append(slices.Clone(l), gauge(99, d.between(0, 9), -d.between(0, 9), d.between(0, 9)))
		if r, e := tide.Levels(w, more); e == api.OK && !contains(s, r) {
			t.Error("new levels", r, s, w, more)
		}
		lo, hi, e := tide.Rests(w, l)
		good(t, e, w, l)
		rest := slices.DeleteFunc(slices.Clone(l), func(g api.Gauge) bool { return g.ID != lo && g.ID != hi })
		r, e := tide.Levels(w, rest)
		equal(t, r, s, w, l, rest)
		equal(t, e, api.OK, w, l, rest)
	})
	clash := append(both(), gauge(1, 0, 150, 151))
	_, e := tide.Levels(example(), append(clash, gauge(2, 0, -40000, 40000)))
	equal(t, e, api.ErrClash, "a further gauge brings no level back")
}
