package tide_test

import (
	"slices"
	"testing"

	"kentledge/api"
	"kentledge/tide"
)

// cutsByWords makes each part as long as its floor allows; it fails if a minute alone is too low.
func cutsByWords(w api.Water, s api.Span, height int) ([]int, bool) {
	if slices.Min(heightsByWords(w, s)) < height {
		return nil, false
	}
	var cuts []int
	from := s.Lo
	for tick := s.Lo; tick <= s.Hi; tick++ {
		if floorByWords(w, span(from, tick)) < height {
			cuts, from = append(cuts, tick), tick
		}
	}
	return cuts, true
}

// provesByWords computes the floor of each part.
func provesByWords(w api.Water, s api.Span, height int, cuts []int) bool {
	from := s.Lo
	for _, to := range append(slices.Clone(cuts), s.Hi+1) {
		if floorByWords(w, span(from, to-1)) < height {
			return false
		}
		from = to
	}
	return true
}

// P2.6
func TestProve(t *testing.T) {
	for _, c := range []struct {
		w      api.Water
		s      api.Span
		height int
		want   []int
		e      api.Errno
	}{
		{example(), span(0, 9), 121, nil, api.OK},
		{example(), span(0, 9), 122, nil, api.ErrNone},
		{example(), span(0, 4), 131, nil, api.OK},
		{example(), span(5, 24), 102, []int{10, 20}, api.OK},
		{example(), span(5, 24), 101, nil, api.OK},
		{example(), span(15, 24), 121, nil, api.OK},
		{example(), span(1430, 1449), 102, []int{1440}, api.OK},
		{example(), span(1430, 1449), 101, nil, api.OK},
		{example(), span(12, 12), 102, nil, api.OK},
		{example(), span(12, 12), 103, nil, api.ErrNone},
		{example(), span(0, 39), minInt, nil, api.OK},
		{example(), span(0, 39), maxInt, nil, api.ErrNone},
		{cross(), span(0, 3), 5, []int{1, 3}, api.OK},
		{cross(), span(0, 3), 0, nil, api.OK},
		{cross(), span(0, 3), 6, nil, api.ErrNone},
		{cross(), span(0, 7), 5, []int{1, 3, 5, 7}, api.OK},
		{cross(), span(3, 4), 5, nil, api.OK},
		{cross(), span(api.MaxTick, api.MaxTick), 5, nil, api.OK},
	} {
		l, e := tide.Prove(c.w, c.s, c.height)
		sameList(t, l, c.want, c)
		equal(t, e, c.e, c)
	}
}

// P2.6: a shift is a part of the floor.
func TestProveOverShifts(t *testing.T) {
	w := api.Water{Cycles: []api.Cycle{cycle(1, 0, 120, slices.Concat(make([]int, 12), slices.Repeat([]int{4}, 12))...)}, Shifts: []api.Shift{{From: 0, To: 0, Add: 4}, {From: 2, To: 2, Add: 4}}}
	l, e := tide.Prove(w, span(0, 4319), 4)
	sameList(t, l, []int{1440, 2880})
	equal(t, e, api.OK)
	equal(t, tide.CheckProof(w, span(0, 4319), 4, []int{1440, 2880}), api.OK)
	equal(t, tide.CheckProof(w, span(0, 4319), 4, []int{1440, 2879}), api.ErrProof)
	equal(t, tide.CheckProof(w, span(0, 4319), 4, []int{1440}), api.ErrProof)
}

// P2.6: the number of cuts, and the order of the errors.
func TestProveLimit(t *testing.T) {
	l, e := tide.Prove(cross(), span(0, 4000), 5)
	equal(t, len(l), api.MaxCuts)
	equal(t, e, api.OK)
	equal(t, tide.CheckProof(cross(), span(0, 4000), 5, l), api.OK)
	m, e := tide.Prove(cross(), span(0, 4001), 5)
	equal(t, len(m), 0)
	equal(t, e, api.ErrLimit)
	equal(t, tide.CheckProof(cross(), span(0, 4001), 5, append(l, 4001)), api.ErrLimit)
	low := cross()
	low.Shifts = []api.Shift{{From: 5, To: 5, Add: -1}}
	m, e = tide.Prove(low, span(0, 7200), 5)
	equal(t, len(m), 0)
	equal(t, e, api.ErrNone, "too low behind too many cuts")
	m, e = tide.Prove(low, span(0, 7199), 5)
	equal(t, len(m), 0)
	equal(t, e, api.ErrLimit)
}

// P2.6
func TestCheckProof(t *testing.T) {
	for _, c := range []struct {
		cuts []int
		want api.Errno
	}{
		{[]int{1, 3}, api.OK},
		{[]int{1, 2, 3}, api.OK},
		{nil, api.ErrProof},
		{[]int{}, api.ErrProof},
		{[]int{1}, api.ErrProof},
		{[]int{3}, api.ErrProof},
		{[]int{2}, api.ErrProof},
		{[]int{3, 1}, api.ErrProof},
		{[]int{1, 1, 3}, api.ErrProof},
		{[]int{1, 3, 3}, api.ErrProof},
		{[]int{0, 1, 3}, api.ErrProof},
		{[]int{-1, 1, 3}, api.ErrProof},
		{[]int{minInt, 1, 3}, api.ErrProof},
		{[]int{1, 3, 4}, api.ErrProof},
		{[]int{1, 3, maxInt}, api.ErrProof},
		{make([]int, api.MaxCuts), api.ErrProof},
		{make([]int, api.MaxCuts+1), api.ErrLimit},
	} {
		equal(t, tide.CheckProof(cross(), span(0, 3), 5, c.cuts), c.want, c.cuts)
	}
	s := span(0, 39)
	equal(t, tide.CheckProof(example(), s, minInt, nil), api.OK)
	equal(t, tide.CheckProof(example(), s, minInt, []int{39}), api.OK)
	equal(t, tide.CheckProof(example(), s, minInt, []int{1}), api.OK)
	equal(t, tide.CheckProof(example(), s, minInt, []int{40}), api.ErrProof, "behind the span")
	equal(t, tide.CheckProof(example(), s, minInt, []int{0}), api.ErrProof, "at its beginning")
	equal(t, tide.CheckProof(example(), s, maxInt, nil), api.ErrProof)
	equal(t, tide.CheckProof(example(), span(7, 7), 121, nil), api.OK)
	equal(t, tide.CheckProof(example(), span(7, 7), 122, nil), api.ErrProof)
	equal(t, tide.CheckProof(example(), span(7, 7), 121, []int{7}), api.ErrProof)
	equal(t, tide.CheckProof(example(), span(7, 7), 121, []int{8}), api.ErrProof)
	equal(t, tide.CheckProof(cross(), span(10, 13), 5, []int{11, 13}), api.OK)
	equal(t, tide.CheckProof(cross(), span(10, 13), 5, []int{9, 11, 13}), api.ErrProof)
	equal(t, tide.CheckProof(cross(), span(10, 13), 5, []int{10, 11, 13}), api.ErrProof)
}

// P2.6: Prove and CheckProof are what the chapter's words say.
func TestProofsByWords(t *testing.T) {
	d := &dice{state: 17}
	for range 1500 {
		w, s := d.water(4, 40, 4, 4, 2), d.minutes(14)
		height := slices.Min(heightsByWords(w, s)) + d.between(-1, 1)/d.between(1, 3)
		want, found := cutsByWords(w, s, height)
		l, e := tide.Prove(w, s, height)
		sameList(t, l, want, w, s, height)
		equal(t, e == api.OK, found, w, s, height)
		var cuts []int
		for tick := s.Lo + 1; tick <= s.Hi; tick++ {
			if d.between(0, 3) > 0 {
				cuts = append(cuts, tick)
			}
		}
		wantE := api.ErrProof
		if provesByWords(w, s, height, cuts) {
			wantE = api.OK
		}
		equal(t, tide.CheckProof(w, s, height, cuts), wantE, w, s, height, cuts)
	}
}
