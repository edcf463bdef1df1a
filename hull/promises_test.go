package hull_test

import (
	"slices"
	"testing"

	"kentledge/api"
	"kentledge/hull"
)

// P3.12: the same loadings, and both ends of each span occur.
func TestNarrowHasTheSameLoadings(t *testing.T) {
	forLoads(t, func(d *dice, s api.Ship, l api.Load) {
		n, e := hull.Narrow(s, l)
		good(t, e, s, l)
		equal(t, hull.CheckLoad(s, n), api.OK, s, l, n)
		all := loadingsOf(l)
		equal(t, slices.EqualFunc(all, loadingsOf(n), slices.Equal), true, s, l, n)
		var totals []int
		for _, x := range all {
			totals = append(totals, sum(x))
		}
		equal(t, n.All, span(slices.Min(totals), slices.Max(totals)), s, l)
		for i, p := range n.Holds {
			var masses []int
			for _, x := range all {
				masses = append(masses, x[i])
			}
			equal(t, p, span(slices.Min(masses), slices.Max(masses)), s, l, i)
		}
		again, e := hull.Narrow(s, n)
		good(t, e, s, n)
		sameLoad(t, again, n, s, l)
	})
	forLarge(t, func(d *dice, s api.Ship, l api.Load) {
		n, e := hull.Narrow(s, l)
		good(t, e, s, l)
		for range 50 {
			equal(t, hull.Fits(s, n, d.loading(l)), true, s, l, n)
			equal(t, hull.Fits(s, l, d.loading(n)), true, s, l, n)
		}
	})
}

// P3.13: she is steady in each loading exactly if Steady says so, whatever is proved.
func TestSteadyProveAndStiffAgree(t *testing.T) {
	forLoads(t, func(d *dice, s api.Ship, l api.Load) {
		_, is, e := hull.Steady(s, l)
		good(t, e, s, l)
		all := true
		for _, x := range loadingsOf(l) {
			f, e := hull.Stiff(s, x)
			good(t, e, s, x)
			all = all && f.Num >= s.Least*f.Den
		}
		equal(t, is, all, s, l)
		parts, e := hull.Prove(s, l)
		equal(t, e == api.OK, is, s, l)
		equal(t, hull.CheckSteady(s, l, parts) == api.OK, is, s, l, parts)
	})
}

// P3.15: no step can be left out, and each is the greatest that it can be, or the last one of its hold.
func TestOrdersHaveTheFewestSteps(t *testing.T) {
	found := 0
	forShips(t, func(d *dice, s api.Ship) {
		var from, to []int
		for _, h := range s.Holds {
			p := d.span(0, h.Room)
			from, to = append(from, p.Hi), append(to, p.Lo)
		}
		s.Least = 0
		step := d.between(1, 8)
		drops, e := hull.Order(s, from, to, step)
		if e != api.OK {
			return
		}
		found++
		need := 0
		for i := range from {
			need += (from[i] - to[i] + step - 1) / step
		}
		equal(t, len(drops), need, s, from, to, step)
		for _, p := range drops {
			equal(t, 1 <= p.Mass && p.Mass <= step, true, s, from, to, step, p)
		}
		x, at, e := hull.CheckOrder(s, from, drops)
		sameList(t, x, to, s, from, to, step)
		equal(t, at, -1, s, from, to, step)
		equal(t, e, api.OK, s, from, to, step)
	})
	if found < 300 {
		t.Error("too few orders", found)
	}
}

// out rolls what is taken out of the holds, as spans that Behind takes.
func (d *dice) out(s api.Ship, l api.Load) []api.Span {
	var out []api.Span
	for i, h := range s.Holds {
		lo := d.between(0, l.Holds[i].Hi)
		out = append(out, span(lo, d.between(lo, h.Room)))
	}
	return out
}

// P3.10, P3.16: what is left is a loading of Behind, if nothing is less than 0.
func TestBehindHasWhatIsLeft(t *testing.T) {
	count := map[api.Errno]int{}
	forLoads(t, func(d *dice, s api.Ship, l api.Load) {
		x := d.loading(l)
		l.All = span(sum(x), sum(x)+d.between(0, 1)) // few totals: what is left may be in no load
		out := d.out(s, l)
		b, e := hull.Behind(s, l, out)
		count[e]++
		left := 0
		for _, x := range loadingsOf(l) {
			for _, taken := range inSpans(out) {
				y := slices.Clone(x)
				for i := range y {
					y[i] -= taken[i]
				}
				if len(y) > 0 && slices.Min(y) < 0 {
					continue
				}
				left++
				equal(t, hull.Fits(s, b, y), true, s, l, out, y)
			}
		}
		if e != api.OK {
			equal(t, left, 0, s, l, out)
		}
	})
	if count[api.OK] < 500 || count[api.ErrClash] < 5 || count[api.ErrArg] < 10 {
		t.Error("too few of a kind", count)
	}
}

// P3.10: the spans by the words of the chapter.
func TestBehindByTheWords(t *testing.T) {
	forLoads(t, func(d *dice, s api.Ship, l api.Load) {
		out := d.out(s, l)
		var want api.Load
		lo, hi := 0, 0
		for i, p := range l.Holds {
			want.Holds = append(want.Holds, span(max(0, p.Lo-out[i].Hi), p.Hi-out[i].Lo))
			lo, hi = lo+out[i].Lo, hi+out[i].Hi
		}
		want.All = span(max(0, l.All.Lo-hi), l.All.Hi-lo)
		b, e := hull.Behind(s, l, out)
		switch {
		case l.All.Hi < lo:
			equal(t, e, api.ErrArg, s, l, out)
		case len(loadingsOf(want)) == 0:
			equal(t, e, api.ErrClash, s, l, out)
		default:
			good(t, e, s, l, out)
			sameLoad(t, b, want, s, l, out)
		}
	})
}
