package tide_test

import (
	"slices"
	"testing"

	"kentledge/api"
	"kentledge/tide"
)

// windowsByWords finds the longest runs of minutes in each of which the water is at least so high.
func windowsByWords(w api.Water, s api.Span, height int) []api.Span {
	var l []api.Span
	for tick := s.Lo; tick <= s.Hi; tick++ {
		if heightByWords(w, tick) < height {
			continue
		}
		if len(l) > 0 && l[len(l)-1].Hi == tick-1 {
			l[len(l)-1].Hi = tick
		} else {
			l = append(l, span(tick, tick))
		}
	}
	return l
}

// P2.5
func TestWindows(t *testing.T) {
	for _, c := range []struct {
		s      api.Span
		height int
		want   []api.Span
		n      int
	}{
		{span(0, 39), 121, []api.Span{span(0, 9), span(15, 24), span(30, 39)}, 30},
		{span(0, 39), 122, []api.Span{span(0, 4), span(15, 19), span(30, 39)}, 20},
		{span(0, 39), 132, []api.Span{span(15, 19), span(30, 34)}, 10},
		{span(0, 39), 133, nil, 0},
		{span(0, 39), maxInt, nil, 0},
		{span(0, 39), 101, []api.Span{span(0, 39)}, 40},
		{span(0, 39), minInt, []api.Span{span(0, 39)}, 40},
		{span(8, 17), 121, []api.Span{span(8, 9), span(15, 17)}, 5},
		{span(10, 14), 103, nil, 0},
		{span(12, 12), 102, []api.Span{span(12, 12)}, 1},
		{span(12, 12), 103, nil, 0},
		{span(0, 0), 131, []api.Span{span(0, 0)}, 1},
		{span(1438, 1441), 110, []api.Span{span(1440, 1441)}, 2},
		{span(api.MaxTick, api.MaxTick), 0, []api.Span{span(api.MaxTick, api.MaxTick)}, 1},
		{span(0, api.MaxWatched-1), 0, []api.Span{span(0, api.MaxWatched-1)}, api.MaxWatched},
	} {
		l, e := tide.Windows(example(), c.s, c.height)
		sameList(t, l, c.want, c)
		equal(t, e, api.OK, c)
		n, e := tide.Minutes(example(), c.s, c.height)
		equal(t, n, c.n, c)
		equal(t, e, api.OK, c)
	}
	forWaters(t, func(d *dice, w api.Water, s api.Span) {
		height := heightByWords(w, d.between(s.Lo, s.Hi)) + d.between(-1, 1)
		want := windowsByWords(w, s, height)
		l, e := tide.Windows(w, s, height)
		sameList(t, l, want, w, s, height)
		equal(t, e, api.OK, w, s, height)
		many := 0
		for _, h := range heightsByWords(w, s) {
			if h >= height {
				many++
			}
		}
		n, e := tide.Minutes(w, s, height)
		equal(t, n, many, w, s, height)
		equal(t, e, api.OK, w, s, height)
	})
}

// P2.5
func TestNext(t *testing.T) {
	for _, c := range []struct {
		s            api.Span
		height, long int
		want         api.Span
		e            api.Errno
	}{
		{span(0, 39), 121, 8, span(0, 9), api.OK},
		{span(0, 39), 121, 10, span(0, 9), api.OK},
		{span(0, 39), 121, 11, api.Span{}, api.ErrNone},
		{span(0, 39), 121, 1, span(0, 9), api.OK},
		{span(0, 39), 122, 6, span(30, 39), api.OK},
		{span(0, 39), 122, 5, span(0, 4), api.OK},
		{span(0, 38), 122, 10, api.Span{}, api.ErrNone},
		{span(1, 39), 122, 5, span(15, 19), api.OK},
		{span(0, 39), 101, 40, span(0, 39), api.OK},
		{span(0, 39), 101, 41, api.Span{}, api.ErrNone},
		{span(0, 39), 101, maxInt, api.Span{}, api.ErrNone},
		{span(0, 39), 133, 1, api.Span{}, api.ErrNone},
		{span(0, 39), maxInt, 1, api.Span{}, api.ErrNone},
		{span(0, 39), 121, 0, api.Span{}, api.ErrArg},
		{span(0, 39), 121, -1, api.Span{}, api.ErrArg},
		{span(0, 39), 133, minInt, api.Span{}, api.ErrArg},
		{span(17, 17), 132, 1, span(17, 17), api.OK},
		{span(17, 17), 132, 2, api.Span{}, api.ErrNone},
	} {
		s, e := tide.Next(example(), c.s, c.height, c.long)
		equal(t, s, c.want, c)
		equal(t, e, c.e, c)
	}
	forWaters(t, func(d *dice, w api.Water, s api.Span) {
		height, long := heightByWords(w, s.Hi), d.between(1, 9)
		l := windowsByWords(w, s, height)
		i := slices.IndexFunc(l, func(p api.Span) bool { return p.Hi-p.Lo+1 >= long })
		want, wantE := api.Span{}, api.ErrNone
		if i >= 0 {
			want, wantE = l[i], api.OK
		}
		p, e := tide.Next(w, s, height, long)
		equal(t, p, want, w, s, height, long)
		equal(t, e, wantE, w, s, height, long)
	})
}
