package tide_test

import (
	"slices"
	"testing"

	"kentledge/api"
	"kentledge/tide"
)

const (
	minInt  = -1 << 63
	maxInt  = 1<<63 - 1
	lastDay = api.MaxTick / api.DayTick
)

func span(lo, hi int) api.Span { return api.Span{Lo: lo, Hi: hi} }

func stand(lo, hi, height int) api.Stand { return api.Stand{Span: span(lo, hi), Height: height} }

func cycle(id, begin, every int, heights ...int) api.Cycle {
	return api.Cycle{ID: id, Begin: begin, Every: every, Heights: heights}
}

func gauge(id, tick, lo, hi int) api.Gauge {
	return api.Gauge{ID: id, Tick: tick, Read: span(lo, hi)}
}

// one and two are the cycles of the chapter's examples, example is their water.
func one() api.Cycle { return cycle(1, 10, 5, 0, 30, 20) }

func two() api.Cycle { return cycle(2, 0, 10, 1, 2) }

func example() api.Water {
	return api.Water{Level: 100, Cycles: []api.Cycle{one(), two()}, Shifts: []api.Shift{{From: 1, To: 1, Add: 7}}}
}

// tooMany is wrong in every way that there is.
func tooMany() api.Water {
	return api.Water{Cycles: make([]api.Cycle, api.MaxCycles+1), Shifts: make([]api.Shift, api.MaxShifts+1)}
}

// cross is a water that stays at 5, but of which a part of which both cycles change has the floor 0.
func cross() api.Water {
	return api.Water{Cycles: []api.Cycle{cycle(1, 0, 1, 0, 5, 5, 0), cycle(2, 0, 1, 5, 0, 0, 5)}}
}

// valueByWords computes a value by the chapter's words: the quotient rounded down, then its remainder.
func valueByWords(c api.Cycle, tick int) int {
	q := (tick - c.Begin) / c.Every
	for q*c.Every > tick-c.Begin {
		q--
	}
	n := len(c.Heights)
	return c.Heights[((q%n)+n)%n]
}

func correctionByWords(w api.Water, tick int) int {
	for _, s := range w.Shifts {
		if s.From*api.DayTick <= tick && tick < (s.To+1)*api.DayTick {
			return s.Add
		}
	}
	return 0
}

func heightByWords(w api.Water, tick int) int {
	h := w.Level + correctionByWords(w, tick)
	for _, c := range w.Cycles {
		h += valueByWords(c, tick)
	}
	return h
}

func heightsByWords(w api.Water, s api.Span) []int {
	var l []int
	for tick := s.Lo; tick <= s.Hi; tick++ {
		l = append(l, heightByWords(w, tick))
	}
	return l
}

// floorByWords computes the floor of a part of a span.
func floorByWords(w api.Water, s api.Span) int {
	least := func(of func(tick int) int) int {
		m := of(s.Lo)
		for tick := s.Lo; tick <= s.Hi; tick++ {
			m = min(m, of(tick))
		}
		return m
	}
	sum := w.Level + least(func(tick int) int { return correctionByWords(w, tick) })
	for _, c := range w.Cycles {
		sum += least(func(tick int) int { return valueByWords(c, tick) })
	}
	return sum
}

// dice rolls numbers, the same ones in each run.
type dice struct{ state uint64 }

func (d *dice) between(lo, hi int) int {
	d.state = d.state*6364136223846793005 + 1442695040888963407
	return lo + int((d.state>>33)%uint64(hi-lo+1))
}

// cycle rolls a right cycle.
func (d *dice) cycle(id, begin, every, table, height int) api.Cycle {
	c := cycle(id, d.between(0, begin), d.between(1, every))
	for range d.between(1, table) {
		c.Heights = append(c.Heights, d.between(-height, height))
	}
	return c
}

// water rolls a right water: small bounds make equal heights and shifts that meet likely.
func (d *dice) water(cycles, begin, every, table, height int) api.Water {
	w := api.Water{Level: d.between(-height, height)}
	ids := []int{3, 1, 8, 2, api.MaxID, 5}
	for i := range d.between(0, cycles) {
		w.Cycles = append(w.Cycles, d.cycle(ids[i], begin, every, table, height))
	}
	day := 0
	for range d.between(0, 4) {
		from := day + d.between(0, 1)
		to := from + d.between(0, 1)
		w.Shifts = append(w.Shifts, api.Shift{From: from, To: to, Add: d.between(-height, height)})
		day = to + 1
	}
	return w
}

// minutes rolls minutes around the end of one of the first days.
func (d *dice) minutes(most int) api.Span {
	lo := max(0, d.between(0, 5)*api.DayTick-d.between(0, most))
	return span(lo, lo+d.between(0, most-1))
}

// forWaters gives many waters and minutes, small and large ones.
func forWaters(t *testing.T, what func(d *dice, w api.Water, s api.Span)) {
	t.Helper()
	d := &dice{state: 11}
	for range 1500 {
		what(d, d.water(4, 40, 4, 4, 2), d.minutes(24))
	}
	for range 12 {
		what(d, d.water(6, api.MaxTick, 120, 60, 4000), d.minutes(1500))
	}
}

// gauges rolls some gauges, most of which are close to what a water of some level shows.
func (d *dice) gauges(w api.Water, most int) []api.Gauge {
	var l []api.Gauge
	level := d.between(-4, 4)
	if d.between(0, 5) == 0 {
		level = d.between(api.MaxTide-3, api.MaxTide) * (1 - 2*d.between(0, 1))
	}
	for i := range d.between(0, most) {
		tick := d.between(0, 5*api.DayTick)
		h := heightByWords(w, tick) - w.Level + level
		lo := h + d.between(-6, 2)
		l = append(l, gauge((i*7)%11+1, tick, lo, max(lo, h)+d.between(0, 4)))
	}
	return l
}

// forGauges gives many waters with gauges.
func forGauges(t *testing.T, what func(d *dice, w api.Water, l []api.Gauge)) {
	t.Helper()
	d := &dice{state: 13}
	for range 400 {
		w := d.water(4, 40, 4, 4, 2)
		what(d, w, d.gauges(w, 5))
	}
}

// levelsByWords tries each level.
func levelsByWords(w api.Water, l []api.Gauge) []int {
	var bare []int
	for _, g := range l {
		bare = append(bare, heightByWords(w, g.Tick)-w.Level)
	}
	var fine []int
	for level := -api.MaxTide; level <= api.MaxTide; level++ {
		agrees := true
		for i, g := range l {
			agrees = agrees && g.Read.Lo <= level+bare[i] && level+bare[i] <= g.Read.Hi
		}
		if agrees {
			fine = append(fine, level)
		}
	}
	return fine
}

// left returns a list without one element.
func left[T any](l []T, i int) []T { return slices.Concat(l[:i], l[i+1:]) }

// good fails unless a call had no error.
func good(t *testing.T, e api.Errno, about ...any) {
	t.Helper()
	if e != api.OK {
		t.Fatal("error", e, about)
	}
}

func equal[T comparable](t *testing.T, got, want T, about ...any) {
	t.Helper()
	if got != want {
		t.Errorf("got %v, want %v: %v", got, want, about)
	}
}

func sameList[T comparable](t *testing.T, got, want []T, about ...any) {
	t.Helper()
	if !slices.Equal(got, want) {
		t.Errorf("got %v, want %v: %v", got, want, about)
	}
}

func sameCycle(t *testing.T, got, want api.Cycle, about ...any) {
	t.Helper()
	if got.ID != want.ID || got.Begin != want.Begin || got.Every != want.Every || !slices.Equal(got.Heights, want.Heights) {
		t.Errorf("got %v, want %v: %v", got, want, about)
	}
}

// value fails unless a cycle has a value.
func value(t *testing.T, c api.Cycle, tick int) int {
	t.Helper()
	v, e := tide.Value(c, tick)
	good(t, e, c, tick)
	return v
}
