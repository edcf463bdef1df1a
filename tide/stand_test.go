package tide_test

import (
	"slices"
	"testing"

	"kentledge/api"
	"kentledge/tide"
)

// standsByWords finds the longest runs of minutes with the same height.
func standsByWords(w api.Water, s api.Span) []api.Stand {
	var l []api.Stand
	h := heightsByWords(w, s)
	for from := 0; from < len(h); {
		to := from
		for to+1 < len(h) && h[to+1] == h[from] {
			to++
		}
		l = append(l, stand(s.Lo+from, s.Lo+to, h[from]))
		from = to + 1
	}
	return l
}

// P2.3
func TestHighestLowest(t *testing.T) {
	flat := api.Water{Level: -3}
	for _, c := range []struct {
		w        api.Water
		s        api.Span
		hi, at   int
		lo, from int
		e        api.Errno
	}{
		{example(), span(0, 39), 132, 15, 101, 25, api.OK},
		{example(), span(5, 14), 121, 5, 102, 10, api.OK},
		{example(), span(16, 16), 132, 16, 132, 16, api.OK},
		{example(), span(27, 39), 132, 30, 101, 27, api.OK},
		{example(), span(1430, 1449), 138, 1440, 102, 1435, api.OK},
		{flat, span(0, 0), -3, 0, -3, 0, api.OK},
		{flat, span(api.MaxTick, api.MaxTick), -3, api.MaxTick, -3, api.MaxTick, api.OK},
		{flat, span(7, 7+api.MaxWatched-1), -3, 7, -3, 7, api.OK},
		{flat, span(7, 7+api.MaxWatched), 0, 0, 0, 0, api.ErrLimit},
	} {
		h, at, e := tide.Highest(c.w, c.s)
		equal(t, [3]int{h, at, int(e)}, [3]int{c.hi, c.at, int(c.e)}, c)
		h, at, e = tide.Lowest(c.w, c.s)
		equal(t, [3]int{h, at, int(e)}, [3]int{c.lo, c.from, int(c.e)}, c)
	}
	forWaters(t, func(d *dice, w api.Water, s api.Span) {
		all := heightsByWords(w, s)
		h, at, e := tide.Highest(w, s)
		equal(t, e, api.OK, w, s)
		equal(t, h, slices.Max(all), w, s)
		equal(t, at, s.Lo+slices.Index(all, h), w, s)
		h, at, e = tide.Lowest(w, s)
		equal(t, e, api.OK, w, s)
		equal(t, h, slices.Min(all), w, s)
		equal(t, at, s.Lo+slices.Index(all, h), w, s)
	})
}

// P2.3
func TestStands(t *testing.T) {
	opposite := api.Water{Cycles: []api.Cycle{cycle(1, 0, 5, 1, 0), cycle(2, 0, 5, 0, 1)}}
	met := api.Water{Shifts: []api.Shift{{From: 0, To: 0, Add: 4}, {From: 1, To: 1, Add: 4}, {From: 2, To: 2, Add: 0}}}
	for _, c := range []struct {
		name string
		w    api.Water
		s    api.Span
		want []api.Stand
	}{
		{"example", example(), span(0, 14), []api.Stand{stand(0, 4, 131), stand(5, 9, 121), stand(10, 14, 102)}},
		{"in the middle", example(), span(2, 12), []api.Stand{stand(2, 4, 131), stand(5, 9, 121), stand(10, 12, 102)}},
		{"one minute", example(), span(3, 3), []api.Stand{stand(3, 3, 131)}},
		{"the first minute", example(), span(0, 0), []api.Stand{stand(0, 0, 131)}},
		{"the last minute", api.Water{Level: 2}, span(api.MaxTick, api.MaxTick), []api.Stand{stand(api.MaxTick, api.MaxTick, 2)}},
		{"up to the last minute", api.Water{Cycles: []api.Cycle{cycle(1, api.MaxTick, 3, 1, 2)}}, span(api.MaxTick-4, api.MaxTick), []api.Stand{stand(api.MaxTick-4, api.MaxTick-4, 1), stand(api.MaxTick-3, api.MaxTick-1, 2), stand(api.MaxTick, api.MaxTick, 1)}},
		{"cycles that change, but not their sum", opposite, span(2, 90), []api.Stand{stand(2, 90, 1)}},
		{"shifts that meet with the same Add", met, span(1000, 2000), []api.Stand{stand(1000, 2000, 4)}},
		{"a shift by nothing", met, span(2870, 5000), []api.Stand{stand(2870, 2879, 4), stand(2880, 5000, 0)}},
		{"height 0 at first", api.Water{}, span(0, 9), []api.Stand{stand(0, 9, 0)}},
	} {
		l, e := tide.Stands(c.w, c.s)
		sameList(t, l, c.want, c.name)
		equal(t, e, api.OK, c.name)
	}
	forWaters(t, func(d *dice, w api.Water, s api.Span) {
		l, e := tide.Stands(w, s)
		sameList(t, l, standsByWords(w, s), w, s)
		equal(t, e, api.OK, w, s)
	})
}

// P2.4
func TestHighWatersLowWaters(t *testing.T) {
	stairs := api.Water{Cycles: []api.Cycle{cycle(1, 0, 2, 0, 1, 2, 1, 0, -1, -2, -1)}}
	for _, c := range []struct {
		name      string
		w         api.Water
		s         api.Span
		high, low []api.Stand
	}{
		{"example", example(), span(0, 39), []api.Stand{stand(15, 19, 132), stand(30, 34, 132)}, []api.Stand{stand(10, 14, 102), stand(25, 29, 101)}},
		{"not the last one", example(), span(0, 34), []api.Stand{stand(15, 19, 132)}, []api.Stand{stand(10, 14, 102), stand(25, 29, 101)}},
		{"not the first one", example(), span(12, 31), []api.Stand{stand(15, 19, 132)}, []api.Stand{stand(25, 29, 101)}},
		{"two stands", example(), span(0, 9), nil, nil},
		{"one stand", example(), span(0, 4), nil, nil},
		{"one minute", example(), span(15, 15), nil, nil},
		{"going up only", stairs, span(12, 21), nil, nil},
		{"going down only", stairs, span(4, 13), nil, nil},
		{"stairs", stairs, span(0, 21), []api.Stand{stand(4, 5, 2)}, []api.Stand{stand(12, 13, -2)}},
		{"a neighbour of one minute", stairs, span(3, 6), []api.Stand{stand(4, 5, 2)}, nil},
	} {
		l, e := tide.HighWaters(c.w, c.s)
		sameList(t, l, c.high, c.name)
		equal(t, e, api.OK, c.name)
		l, e = tide.LowWaters(c.w, c.s)
		sameList(t, l, c.low, c.name)
		equal(t, e, api.OK, c.name)
	}
	forWaters(t, func(d *dice, w api.Water, s api.Span) {
		all := standsByWords(w, s)
		var high, low []api.Stand
		for i := 1; i+1 < len(all); i++ {
			h, before, behind := all[i].Height, all[i-1].Height, all[i+1].Height
			if h > max(before, behind) {
				high = append(high, all[i])
			}
			if h < min(before, behind) {
				low = append(low, all[i])
			}
		}
		l, e := tide.HighWaters(w, s)
		sameList(t, l, high, w, s)
		equal(t, e, api.OK, w, s)
		l, e = tide.LowWaters(w, s)
		sameList(t, l, low, w, s)
		equal(t, e, api.OK, w, s)
	})
}
