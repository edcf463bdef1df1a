package tide_test

import (
	"slices"
	"testing"

	"kentledge/api"
	"kentledge/tide"
)

// P2.7
func TestShortest(t *testing.T) {
	for _, c := range []struct{ heights, want []int }{
		{[]int{1, 2, 1, 2}, []int{1, 2}},
		{[]int{1, 2}, []int{1, 2}},
		{[]int{5}, []int{5}},
		{[]int{1, 1, 1}, []int{1}},
		{[]int{1, 2, 1}, []int{1, 2, 1}},
		{[]int{1, 2, 1, 2, 1}, []int{1, 2, 1, 2, 1}},
		{[]int{1, 2, 3, 1, 2, 3}, []int{1, 2, 3}},
		{[]int{1, 1, 2, 1}, []int{1, 1, 2, 1}},
		{[]int{1, 1, 2, 1, 1, 2}, []int{1, 1, 2}},
		{[]int{1, 2, 1, 2, 1, 2, 1, 3}, []int{1, 2, 1, 2, 1, 2, 1, 3}},
		{make([]int, api.MaxTable), []int{0}},
		{slices.Repeat([]int{1, 2, 2, 2}, 15), []int{1, 2, 2, 2}},
		{slices.Repeat(slices.Concat(make([]int, 29), []int{1}), 2), slices.Concat(make([]int, 29), []int{1})},
		{slices.Concat(make([]int, 59), []int{1}), slices.Concat(make([]int, 59), []int{1})},
	} {
		r, e := tide.Shortest(cycle(3, 4, 5, c.heights...))
		sameCycle(t, r, cycle(3, 4, 5, c.want...), c)
		equal(t, e, api.OK, c)
	}
	for name, c := range wrongCycles() {
		r, e := tide.Shortest(c)
		sameCycle(t, r, api.Cycle{}, name)
		equal(t, e, api.ErrArg, name)
	}
	for _, c := range boundCycles() {
		_, e := tide.Shortest(c)
		equal(t, e, api.OK, c)
	}
}

// P2.7
func TestTogether(t *testing.T) {
	same := cycle(9, 7, 4, 1, 2)
	late := cycle(5, api.MaxTick, 120, 10, 20)
	for _, c := range []struct {
		name string
		a, b api.Cycle
		want api.Cycle
		e    api.Errno
	}{
		{"example", one(), two(), cycle(1, 10, 5, 2, 32, 21, 1, 32, 22, 1, 31, 22, 2, 31, 21), api.OK},
		{"the other way round", two(), one(), cycle(2, 0, 5, 31, 21, 2, 32, 21, 1, 32, 22, 1, 31, 22, 2), api.OK},
		{"itself", same, same, cycle(9, 7, 4, 2, 4), api.OK},
		{"the same Begin", same, cycle(9, 7, 6, 10), cycle(9, 7, 2, 11, 11, 12, 12, 11, 11, 12, 12, 11, 11, 12, 12), api.OK},
		{"one minute apart", same, cycle(1, 8, 4, 0, 10), cycle(9, 7, 1, 11, 1, 1, 1, 2, 12, 12, 12), api.OK},
		{"half apart", same, cycle(1, 9, 4, 0, 10), cycle(9, 7, 2, 11, 1, 2, 12), api.OK},
		{"half apart, ahead", same, cycle(1, 5, 4, 0, 10), cycle(9, 7, 2, 1, 11, 12, 2), api.OK},
		{"one height each", cycle(1, 0, 6, 5), cycle(2, 0, 4, -7), cycle(1, 0, 2, -2, -2, -2, -2, -2, -2), api.OK},
		{"at the last minute", late, cycle(6, api.MaxTick, 120, 1, 2), cycle(5, api.MaxTick, 120, 11, 22), api.OK},
		{"far apart", late, cycle(6, 16, 120, 1, 2), cycle(5, api.MaxTick, 120, 11, 22), api.OK},
		{"60 heights", same, cycle(1, 7, 4, make([]int, 60)...), cycle(9, 7, 4, slices.Repeat([]int{1, 2}, 30)...), api.OK},
		{"60 heights of 20 and 12", cycle(1, 0, 4, make([]int, 20)...), cycle(2, 0, 4, make([]int, 12)...), cycle(1, 0, 4, make([]int, 60)...), api.OK},
		{"62 heights", same, cycle(1, 0, 4, make([]int, 31)...), api.Cycle{}, api.ErrLimit},
		{"61 heights of one minute", cycle(1, 0, 61, 3), cycle(2, 1, 61, 3), api.Cycle{}, api.ErrLimit},
		{"very many", cycle(1, 0, 120, make([]int, 60)...), cycle(2, 1, 119, make([]int, 59)...), api.Cycle{}, api.ErrLimit},
		{"at the bound", cycle(1, 0, 1, 3999, -4000), cycle(2, 0, 1, 1, 0), cycle(1, 0, 1, 4000, -4000), api.OK},
		{"above", cycle(1, 0, 1, 4000), cycle(2, 0, 1, 1), api.Cycle{}, api.ErrRange},
		{"below", cycle(1, 0, 1, 5, -4000), cycle(2, 0, 1, 0, -1), api.Cycle{}, api.ErrRange},
		{"never at once", cycle(1, 0, 1, 4000, 0), cycle(2, 0, 1, 0, 4000), cycle(1, 0, 1, 4000, 4000), api.OK},
		{"limit before range", cycle(1, 0, 61, 4000), cycle(2, 1, 61, 4000), api.Cycle{}, api.ErrLimit},
	} {
		r, e := tide.Together(c.a, c.b)
		sameCycle(t, r, c.want, c.name)
		equal(t, e, c.e, c.name)
	}
	for name, c := range wrongCycles() {
		for _, pair := range [][2]api.Cycle{{c, one()}, {one(), c}, {c, c}, {c, cycle(1, 0, 61, 4000)}} {
			r, e := tide.Together(pair[0], pair[1])
			sameCycle(t, r, api.Cycle{}, name)
			equal(t, e, api.ErrArg, name)
		}
	}
}

// P2.7
func TestApart(t *testing.T) {
	for _, c := range []struct {
		heights []int
		m       int
		want    []int
		e       api.Errno
	}{
		{[]int{0, 30, 20}, 0, []int{0, 30, 20}, api.OK},
		{[]int{3, -2, 5}, -2, []int{5, 0, 7}, api.OK},
		{[]int{9, 4, 5}, 4, []int{5, 0, 1}, api.OK},
		{[]int{4}, 4, []int{0}, api.OK},
		{[]int{-4000}, -4000, []int{0}, api.OK},
		{[]int{-4000, 0}, -4000, []int{0, 4000}, api.OK},
		{[]int{0, 4000}, 0, []int{0, 4000}, api.OK},
		{[]int{-4000, 1}, 0, nil, api.ErrRange},
		{[]int{4000, -1}, 0, nil, api.ErrRange},
		{[]int{2000, -2001, 0}, 0, nil, api.ErrRange},
		{[]int{-4000, 4000}, 0, nil, api.ErrRange},
	} {
		want := api.Cycle{}
		if c.e == api.OK {
			want = cycle(8, 7, 6, c.want...)
		}
		m, r, e := tide.Apart(cycle(8, 7, 6, c.heights...))
		equal(t, m, c.m, c)
		sameCycle(t, r, want, c)
		equal(t, e, c.e, c)
	}
	for name, c := range wrongCycles() {
		m, r, e := tide.Apart(c)
		equal(t, m, 0, name)
		sameCycle(t, r, api.Cycle{}, name)
		equal(t, e, api.ErrArg, name)
	}
}

// P2.8
func TestSame(t *testing.T) {
	unshifted := example()
	unshifted.Shifts = nil
	turned := example()
	slices.Reverse(turned.Cycles)
	for _, c := range []struct {
		name string
		a, b api.Water
		s    api.Span
		at   int
		same bool
	}{
		{"itself", example(), example(), span(0, 3000), 0, true},
		{"cycles in another order", example(), turned, span(0, 3000), 0, true},
		{"before the shift", example(), unshifted, span(0, 1439), 0, true},
		{"over the shift", example(), unshifted, span(1000, 2000), 1440, false},
		{"in the shift", example(), unshifted, span(1500, 2000), 1500, false},
		{"behind the shift", example(), unshifted, span(2880, 3000), 0, true},
		{"the last minute", example(), unshifted, span(1430, 1440), 1440, false},
		{"the first minute", example(), unshifted, span(2879, 2900), 2879, false},
		{"one minute", example(), unshifted, span(1440, 1440), 1440, false},
		{"in minute 0", api.Water{Level: 1}, api.Water{}, span(0, 5), 0, false},
		{"at the end of time", api.Water{Level: 1}, api.Water{}, span(api.MaxTick, api.MaxTick), api.MaxTick, false},
		{"a level or a cycle", api.Water{Level: 3}, api.Water{Cycles: []api.Cycle{cycle(1, 5, 5, 3)}}, span(0, 99), 0, true},
	} {
		for _, pair := range [][2]api.Water{{c.a, c.b}, {c.b, c.a}} {
			at, same, e := tide.Same(pair[0], pair[1], c.s)
			equal(t, at, c.at, c.name)
			equal(t, same, c.same, c.name)
			equal(t, e, api.OK, c.name)
		}
	}
	forWaters(t, func(d *dice, w api.Water, s api.Span) {
		other := w
		other.Cycles = slices.Clone(w.Cycles)
		if n := len(other.Cycles); n > 0 {
			c := &other.Cycles[d.between(0, n-1)]
			c.Heights = slices.Clone(c.Heights)
			c.Heights[d.between(0, len(c.Heights)-1)] = d.between(-2, 2)
		}
		want := 0
		same := slices.Equal(heightsByWords(w, s), heightsByWords(other, s))
		for tick := s.Lo; !same && want == 0; tick++ {
			if heightByWords(w, tick) != heightByWords(other, tick) {
				want = tick
				break
			}
		}
		at, is, e := tide.Same(w, other, s)
		equal(t, at, want, w, other, s)
		equal(t, is, same, w, other, s)
		equal(t, e, api.OK, w, other, s)
	})
}
