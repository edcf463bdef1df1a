package tide

import (
	"slices"

	"kentledge/api"
)

// sighting is a gauge, and the levels with which it agrees: these are a span only if there are any.
type sighting struct {
	api.Gauge
	levels api.Span
}

func (g sighting) agrees(level int) bool { return g.levels.Lo <= level && level <= g.levels.Hi }

// see returns what a water tells of gauges.
func see(w api.Water, l []api.Gauge) []sighting {
	var seen []sighting
	for _, g := range l {
		h := bare(w, g.Tick)
		seen = append(seen, sighting{Gauge: g, levels: meet(allLevels(), api.Span{Lo: g.Read.Lo - h, Hi: g.Read.Hi - h})})
	}
	return seen
}

func allLevels() api.Span { return api.Span{Lo: -api.MaxTide, Hi: api.MaxTide} }

// meet returns the integers of both spans, or no span if there are none.
func meet(a, b api.Span) api.Span { return api.Span{Lo: max(a.Lo, b.Lo), Hi: min(a.Hi, b.Hi)} }

// common returns the levels with which all gauges agree, or no span if there are none.
func common(l []sighting) api.Span {
	s := allLevels()
	for _, g := range l {
		s = meet(s, g.levels)
	}
	return s
}

// fit reports whether some level agrees with all gauges.
func fit(l []sighting) bool { return isSpan(common(l)) }

func checkGauges(w api.Water, l []api.Gauge) api.Errno {
	if e := Check(w); e != api.OK {
		return e
	}
	if len(l) > api.MaxGauges {
		return api.ErrLimit
	}
	return checkEach(l, isGauge, func(g api.Gauge) int { return g.ID })
}

func isGauge(g api.Gauge) bool {
	return isID(g.ID) && isMinute(g.Tick) && isSpan(g.Read) && -api.MaxRead <= g.Read.Lo && g.Read.Hi <= api.MaxRead
}

// Levels returns the levels with which a water agrees with all gauges.
func Levels(w api.Water, l []api.Gauge) (api.Span, api.Errno) {
	if e := checkGauges(w, l); e != api.OK {
		return api.Span{}, e
	}
	s := common(see(w, l))
	if !isSpan(s) {
		return api.Span{}, api.ErrClash
	}
	return s, api.OK
}

// Rests returns the gauges on which the least and the greatest level rest.
func Rests(w api.Water, l []api.Gauge) (int, int, api.Errno) {
	s, e := Levels(w, l)
	if e != api.OK {
		return 0, 0, e
	}
	seen := see(w, l)
	return against(seen, s.Lo-1), against(seen, s.Hi+1), api.OK
}

// against returns the least ID of a gauge that does not agree with a level next to those with which all agree, or 0 if it is no level. There always is such a gauge: otherwise all would agree with this level, too.
func against(l []sighting, level int) int {
	if !within(level, api.MaxTide) {
		return 0
	}
	id := api.MaxID
	for _, g := range l {
		if !g.agrees(level) {
			id = least(id, g.ID)
		}
	}
	return id
}

// Clashes returns all pairs of gauges that agree with no level together.
func Clashes(w api.Water, l []api.Gauge) ([][2]int, api.Errno) {
	if e := checkGauges(w, l); e != api.OK {
		return nil, e
	}
	seen := see(w, l)
	slices.SortFunc(seen, func(a, b sighting) int { return a.ID - b.ID })
	var pairs [][2]int
	for i, a := range seen {
		if !isSpan(a.levels) {
			pairs = append(pairs, [2]int{a.ID, a.ID})
			continue
		}
		for _, b := range seen[i+1:] {
			if isSpan(b.levels) && !isSpan(meet(a.levels, b.levels)) {
				pairs = append(pairs, [2]int{a.ID, b.ID})
			}
		}
	}
	return pairs, api.OK
}

// Suspects returns the gauges without each of which the others agree with some level.
func Suspects(w api.Water, l []api.Gauge) ([]int, api.Errno) {
	if e := checkGauges(w, l); e != api.OK {
		return nil, e
	}
	seen := see(w, l)
	if fit(seen) {
		return nil, api.OK
	}
	var ids []int
	for i, g := range seen {
		if fit(without(seen, i)) {
			ids = append(ids, g.ID)
		}
	}
	slices.Sort(ids)
	return ids, api.OK
}

// without returns a list without one element, in new memory.
func without[T any](l []T, i int) []T { return slices.Concat(l[:i], l[i+1:]) }

// Shown returns the cycles without each of which the gauges agree with no level.
func Shown(w api.Water, l []api.Gauge) ([]int, api.Errno) {
	if e := checkGauges(w, l); e != api.OK {
		return nil, e
	}
	if !fit(see(w, l)) {
		return nil, api.ErrClash
	}
	return decisive(w, l, false), api.OK
}

// Excluded returns the cycles without each of which gauges that agree with no level agree with some.
func Excluded(w api.Water, l []api.Gauge) ([]int, api.Errno) {
	if e := checkGauges(w, l); e != api.OK {
		return nil, e
	}
	if fit(see(w, l)) {
		return nil, api.OK
	}
	return decisive(w, l, true), api.OK
}

// decisive returns the cycles without each of which alone some level agrees with all gauges, or none does, as is wanted.
func decisive(w api.Water, l []api.Gauge, wanted bool) []int {
	var ids []int
	for i, c := range w.Cycles {
		rest := w
		rest.Cycles = without(w.Cycles, i)
		if fit(see(rest, l)) == wanted {
			ids = append(ids, c.ID)
		}
	}
	slices.Sort(ids)
	return ids
}
