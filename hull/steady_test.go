package hull_test

import (
	"slices"
	"testing"

	"kentledge/api"
	"kentledge/hull"
)

// P3.5
func TestSteadyOfTheExample(t *testing.T) {
	x, is, e := hull.Steady(example(), whole(400))
	sameList(t, x, []int{0, 317})
	equal(t, is, false)
	equal(t, e, api.OK)
	x, is, e = hull.Steady(example(), whole(316))
	sameList(t, x, nil)
	equal(t, is, true)
	equal(t, e, api.OK)
	x, is, e = hull.Steady(example(), loadOf(span(0, 400), span(0, 400), span(0, 300)))
	sameList(t, x, nil)
	equal(t, is, true)
	equal(t, e, api.OK)
}

// P3.5: without holds, with a hold without room, and with just Least as the least metacentric height.
func TestJustSteady(t *testing.T) {
	s := bare()
	_, is, e := hull.Steady(s, loadOf(span(0, 0)))
	equal(t, is, true)
	equal(t, e, api.OK)
	s.Least++
	x, is, e := hull.Steady(s, loadOf(span(0, 0)))
	equal(t, is, false)
	equal(t, len(x), 0)
	equal(t, e, api.OK)
	s.Least--
	s.Meta.Err = 1
	_, is, e = hull.Steady(s, loadOf(span(0, 3999)))
	equal(t, is, false, "the error of the table counts")
	equal(t, e, api.OK)
	s.Holds = []api.Hold{{ID: 4, Height: 9}}
	x, is, e = hull.Steady(s, loadOf(span(0, 0), span(0, 0)))
	sameList(t, x, []int{0})
	equal(t, is, false)
	equal(t, e, api.OK)
}

// P3.5: of the loadings in which she is not steady, one with the least total, and of these the greatest rise.
func TestSteadyByTheWords(t *testing.T) {
	count := map[bool]int{}
	forLoads(t, func(d *dice, s api.Ship, l api.Load) {
		var bad [][]int
		for _, x := range loadingsOf(l) {
			if !steadyByWords(s, x) {
				bad = append(bad, x)
			}
		}
		x, is, e := hull.Steady(s, l)
		good(t, e, s, l)
		equal(t, is, len(bad) == 0, s, l)
		count[is]++
		if len(bad) == 0 {
			equal(t, len(x), 0, s, l)
			return
		}
		equal(t, contains(bad, x), true, s, l, x)
		for _, y := range bad {
			equal(t, sum(x) <= sum(y), true, s, l, x, y)
			equal(t, sum(x) < sum(y) || riseByWords(s, x) >= riseByWords(s, y), true, s, l, x, y)
		}
	})
	if min(count[true], count[false]) < 200 {
		t.Error("too few that are steady, or not", count)
	}
}

// showByWords tells by the words of the chapter whether parts show that a ship is steady.
func showByWords(s api.Ship, l api.Load, parts []api.Part) bool {
	var totals []int
	for _, x := range loadingsOf(l) {
		totals = append(totals, sum(x))
	}
	var form []int
	for _, h := range s.Holds {
		form = append(form, h.Height)
	}
	next := slices.Min(totals)
	for _, p := range parts {
		if p.Totals.Lo != next || p.Totals.Hi < p.Totals.Lo || p.Totals.Hi > slices.Max(totals) || max(p.Price, -p.Price) > api.MaxWeight {
			return false
		}
		for t := p.Totals.Lo; t <= p.Totals.Hi; t++ {
			d := s.Light + t
			can := times(minus(valueByWords(s.Meta, d), rat(s.Meta.Err+s.Least)), rat(d))
			if can.Cmp(rat(s.Light*s.Height+boundByWords(l, span(t, t), form, p.Price))) < 0 {
				return false
			}
		}
		next = p.Totals.Hi + 1
	}
	return next == slices.Max(totals)+1
}

// P3.6, P3.13
func TestProve(t *testing.T) {
	count := map[bool]int{}
	forLoads(t, func(d *dice, s api.Ship, l api.Load) {
		parts, e := hull.Prove(s, l)
		is := true
		for _, x := range loadingsOf(l) {
			is = is && steadyByWords(s, x)
		}
		count[is]++
		if !is {
			equal(t, e, api.ErrState, s, l)
			equal(t, len(parts), 0, s, l)
			return
		}
		good(t, e, s, l)
		equal(t, showByWords(s, l, parts), true, s, l, parts)
		equal(t, hull.CheckSteady(s, l, parts), api.OK, s, l, parts)
	})
	if min(count[true], count[false]) < 200 {
		t.Error("too few that are steady, or not", count)
	}
	parts, e := hull.Prove(bare(), loadOf(span(0, 9)))
	good(t, e)
	equal(t, hull.CheckSteady(bare(), loadOf(span(0, 9)), parts), api.OK, "no hold")
}

// parts rolls parts around some totals, most of which could show something.
func (d *dice) parts(s api.Ship, all api.Span) []api.Part {
	var l []api.Part
	price := func() int {
		if len(s.Holds) == 0 || d.between(0, 5) == 0 {
			return d.between(-9, 99)
		}
		return s.Holds[d.between(0, len(s.Holds)-1)].Height
	}
	for at := all.Lo; at <= all.Hi; {
		hi := d.between(at, all.Hi)
		l = append(l, api.Part{Totals: span(at, hi), Price: price()})
		at = hi + 1
	}
	if i := d.between(0, len(l)-1); d.between(0, 3) == 0 {
		l[i].Totals.Lo += d.between(-1, 1)
	} else if d.between(0, 3) == 0 {
		l[i].Totals.Hi += d.between(-1, 1)
	} else if d.between(0, 9) == 0 {
		l = slices.Delete(l, i, i+1)
	}
	return l
}

// P3.6, P3.13: parts are accepted just if they show it, and only then if she is steady.
func TestCheckSteady(t *testing.T) {
	accepted := 0
	forLoads(t, func(d *dice, s api.Ship, l api.Load) {
		if d.between(0, 1) == 0 {
			s.Least = max(0, s.Least-d.between(0, 9))
		}
		all := loadingsOf(l)
		lo, hi := sum(all[0]), sum(all[len(all)-1])
		for _, x := range all {
			lo, hi = min(lo, sum(x)), max(hi, sum(x))
		}
		for range 6 {
			parts := d.parts(s, span(lo, hi))
			want := api.ErrProof
			if showByWords(s, l, parts) {
				want = api.OK
			}
			equal(t, hull.CheckSteady(s, l, parts), want, s, l, parts)
			if want == api.OK {
				accepted++
				for _, x := range all {
					equal(t, steadyByWords(s, x), true, s, l, parts, x)
				}
			}
		}
	})
	if accepted < 300 {
		t.Error("too few parts were accepted", accepted)
	}
}

// P3.6: of the example up to 100 with the spans 0 to 400, only prices near the upper hold's height will do; each total may have a part of its own.
func TestWrongParts(t *testing.T) {
	s, l := example(), whole(100)
	part := func(lo, hi, price int) api.Part { return api.Part{Totals: span(lo, hi), Price: price} }
	for _, c := range []struct {
		name  string
		parts []api.Part
		want  api.Errno
	}{
		{"one part", []api.Part{part(0, 100, 150)}, api.OK},
		{"two parts", []api.Part{part(0, 50, 150), part(51, 100, 151)}, api.OK},
		{"no part", nil, api.ErrProof},
		{"it begins late", []api.Part{part(1, 100, 150)}, api.ErrProof},
		{"it begins early", []api.Part{part(-1, 100, 150)}, api.ErrProof},
		{"it ends early", []api.Part{part(0, 99, 150)}, api.ErrProof},
		{"it ends late", []api.Part{part(0, 101, 150)}, api.ErrProof},
		{"a gap", []api.Part{part(0, 49, 150), part(51, 100, 150)}, api.ErrProof},
		{"an overlap", []api.Part{part(0, 51, 150), part(51, 100, 150)}, api.ErrProof},
		{"the same twice", []api.Part{part(0, 100, 150), part(0, 100, 150)}, api.ErrProof},
		{"another order", []api.Part{part(51, 100, 150), part(0, 50, 150)}, api.ErrProof},
		{"no span first", []api.Part{part(0, -1, 150), part(0, 100, 150)}, api.ErrProof},
		{"no span between", []api.Part{part(0, 50, 150), part(51, 50, 150), part(51, 100, 150)}, api.ErrProof},
		{"no span last", []api.Part{part(0, 100, 150), part(101, 100, 150)}, api.ErrProof},
		{"no span that goes back", []api.Part{part(0, 50, 150), part(51, 20, 150), part(21, 100, 150)}, api.ErrProof},
		{"without end", []api.Part{part(0, maxInt, 150)}, api.ErrProof},
		{"without begin", []api.Part{part(minInt, 100, 150)}, api.ErrProof},
		{"around the integers", []api.Part{part(0, maxInt, 150), part(minInt, 100, 150)}, api.ErrProof},
		{"a price that is too low", []api.Part{part(0, 100, 60)}, api.ErrProof},
		{"a price that is too high", []api.Part{part(0, 100, 100000)}, api.ErrProof},
		{"a price out of range", []api.Part{part(0, 0, api.MaxWeight+1), part(1, 100, 150)}, api.ErrProof},
		{"the last price is wrong", []api.Part{part(0, 99, 150), part(100, 100, 0)}, api.ErrProof},
	} {
		equal(t, hull.CheckSteady(s, l, c.parts), c.want, c.name)
	}
	// A ship that is steady with all totals that her tables know: those beyond are no totals at all.
	firm := changed(func(s *api.Ship) { s.Least = 0 })
	equal(t, hull.CheckSteady(firm, l, []api.Part{part(0, 100, 150)}), api.OK)
	equal(t, hull.CheckSteady(firm, l, []api.Part{part(0, maxInt, 150), part(minInt, 100, 150)}), api.ErrProof)
	equal(t, hull.CheckSteady(firm, l, []api.Part{part(0, 101, 150)}), api.ErrProof)
	var each []api.Part
	for n := range 101 {
		each = append(each, part(n, n, 150))
	}
	equal(t, hull.CheckSteady(s, l, each), api.OK, "each total has a part")
}

// P3.6: at the total 0 of a load without masses each price proves, but for those out of range.
func TestPricesOfParts(t *testing.T) {
	for price, want := range map[int]api.Errno{
		api.MaxWeight: api.OK, api.MaxWeight + 1: api.ErrProof, -api.MaxWeight: api.OK, -api.MaxWeight - 1: api.ErrProof,
		0: api.OK, maxInt: api.ErrProof, minInt: api.ErrProof,
	} {
		parts := []api.Part{{Totals: span(0, 0), Price: price}}
		equal(t, hull.CheckSteady(example(), loadOf(span(0, 9), span(0, 0), span(0, 0)), parts), want, price)
		equal(t, hull.CheckSteady(bare(), loadOf(span(0, 9)), parts), want, price)
	}
}

// P3.6
func TestTooManyParts(t *testing.T) {
	s := example()
	equal(t, hull.CheckSteady(s, whole(100), make([]api.Part, api.MaxTotals)), api.ErrProof)
	equal(t, hull.CheckSteady(s, whole(100), make([]api.Part, api.MaxTotals+1)), api.ErrLimit)
	s.Holds = []api.Hold{{ID: 1, Room: 4000, Height: 20}}
	s.Mean, s.Meta = curveOf(0, 10, 100, 110, 500), curveOf(0, 10, 160, 110, 140)
	for _, all := range []api.Span{span(0, 3999), span(1, 4000)} {
		l := loadOf(all, span(0, 4000))
		var parts []api.Part
		for n := all.Lo; n <= all.Hi; n++ {
			parts = append(parts, api.Part{Totals: span(n, n), Price: 20})
		}
		equal(t, hull.CheckSteady(s, l, parts), api.OK, "as many parts as can be")
		equal(t, hull.CheckSteady(s, l, append(parts, api.Part{Totals: span(all.Hi+1, all.Hi+1), Price: 20})), api.ErrLimit)
	}
}

// P3.13: large ships.
func TestSteadyOfLargeShips(t *testing.T) {
	count := map[bool]int{}
	forLarge(t, func(d *dice, s api.Ship, l api.Load) {
		x, is, e := hull.Steady(s, l)
		good(t, e, s, l)
		count[is]++
		parts, e := hull.Prove(s, l)
		if is {
			good(t, e, s, l)
			equal(t, hull.CheckSteady(s, l, parts), api.OK, s, l, parts)
		} else {
			equal(t, e, api.ErrState, s, l)
			equal(t, hull.Fits(s, l, x), true, s, l, x)
			equal(t, steadyByWords(s, x), false, s, l, x)
		}
		for range 50 {
			y := d.loading(l)
			equal(t, steadyByWords(s, y) || !is && sum(x) <= sum(y), true, s, l, x, y)
		}
	})
	if min(count[true], count[false]) < 10 {
		t.Error("too few that are steady, or not", count)
	}
}

// P3.5, P3.6, P3.13: the limits of what is multiplied.
func TestSteadyOfHuge(t *testing.T) {
	s := huge()
	for _, at := range []int{0, 30000, 8*8191 - 3999} {
		l := loadOf(span(at, at+3999), roomsOf(s)...)
		x, is, e := hull.Steady(s, l)
		good(t, e)
		sameList(t, x, nil)
		equal(t, is, true)
		parts, e := hull.Prove(s, l)
		good(t, e)
		equal(t, hull.CheckSteady(s, l, parts), api.OK)
		for _, price := range []int{api.MaxWeight, -api.MaxWeight} {
			equal(t, hull.CheckSteady(s, l, []api.Part{{Totals: l.All, Price: price}}), api.ErrProof)
		}
	}
	s.Meta = curveOf(api.MaxErr, 0, 1, api.MaxX-1, 0)
	x, is, e := hull.Steady(s, loadOf(span(30000, 33999), roomsOf(s)...))
	good(t, e)
	equal(t, sum(x), 30000)
	equal(t, is, false)
}
