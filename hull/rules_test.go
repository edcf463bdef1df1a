package hull_test

import (
	"slices"
	"testing"

	"kentledge/api"
	"kentledge/hull"
)

// loadCall is one of the functions that are given a load, with all else that any of them is given; empty tells whether the results beside the error are zero.
type loadCall struct {
	name string
	of   func(s api.Ship, l api.Load) (e api.Errno, empty bool)
}

// ofLoads lists the functions that are given a load. Some are given what is wrong besides: that comes behind the errors of the ship and the load.
func ofLoads() []loadCall {
	return []loadCall{
		{"CheckLoad", func(s api.Ship, l api.Load) (api.Errno, bool) { return hull.CheckLoad(s, l), true }},
		{"Narrow", func(s api.Ship, l api.Load) (api.Errno, bool) {
			n, e := hull.Narrow(s, l)
			return e, len(n.Holds) == 0 && n.All == api.Span{}
		}},
		{"Most", func(s api.Ship, l api.Load) (api.Errno, bool) {
			p, e := hull.Most(s, l, make([]int, 9))
			return e, p.Value == 0 && len(p.Loading) == 0 && p.Price == 0
		}},
		{"CheckMost", func(s api.Ship, l api.Load) (api.Errno, bool) {
			return hull.CheckMost(s, l, make([]int, 9), api.Price{}), true
		}},
		{"Steady", func(s api.Ship, l api.Load) (api.Errno, bool) {
			x, is, e := hull.Steady(s, l)
			return e, len(x) == 0 && !is
		}},
		{"Prove", func(s api.Ship, l api.Load) (api.Errno, bool) {
			p, e := hull.Prove(s, l)
			return e, len(p) == 0
		}},
		{"CheckSteady", func(s api.Ship, l api.Load) (api.Errno, bool) { return hull.CheckSteady(s, l, nil), true }},
		{"CheckSteady with too many parts", func(s api.Ship, l api.Load) (api.Errno, bool) {
			return hull.CheckSteady(s, l, make([]api.Part, api.MaxTotals+1)), true
		}},
		{"Deepest", func(s api.Ship, l api.Load) (api.Errno, bool) {
			n, x, e := hull.Deepest(s, l)
			return e, n == 0 && len(x) == 0
		}},
		{"Clear", func(s api.Ship, l api.Load) (api.Errno, bool) {
			is, e := hull.Clear(s, l, -1, -1)
			return e, !is
		}},
		{"Behind", func(s api.Ship, l api.Load) (api.Errno, bool) {
			b, e := hull.Behind(s, l, []api.Span{span(3, 2)})
			return e, len(b.Holds) == 0 && b.All == api.Span{}
		}},
	}
}

// ofLoadings lists the functions that are given a loading; those that are given more of them get one that is wrong, or much else.
func ofLoadings() []struct {
	name string
	of   func(s api.Ship, x []int) (e api.Errno, empty bool)
} {
	return []struct {
		name string
		of   func(s api.Ship, x []int) (e api.Errno, empty bool)
	}{
		{"Displacement", func(s api.Ship, x []int) (api.Errno, bool) {
			n, e := hull.Displacement(s, x)
			return e, n == 0
		}},
		{"Moment", func(s api.Ship, x []int) (api.Errno, bool) {
			n, e := hull.Moment(s, x)
			return e, n == 0
		}},
		{"Gravity", func(s api.Ship, x []int) (api.Errno, bool) {
			f, e := hull.Gravity(s, x)
			return e, f == api.Frac{}
		}},
		{"Stiff", func(s api.Ship, x []int) (api.Errno, bool) {
			f, e := hull.Stiff(s, x)
			return e, f == api.Frac{}
		}},
		{"Afloat", func(s api.Ship, x []int) (api.Errno, bool) {
			d, e := hull.Afloat(s, x)
			return e, d == api.Draughts{}
		}},
		{"Order from", func(s api.Ship, x []int) (api.Errno, bool) {
			d, e := hull.Order(s, x, []int{0, 0}, 1)
			return e, len(d) == 0
		}},
		{"Order to", func(s api.Ship, x []int) (api.Errno, bool) {
			d, e := hull.Order(s, []int{0, 0}, x, 1)
			return e, len(d) == 0
		}},
		{"CheckOrder", func(s api.Ship, x []int) (api.Errno, bool) {
			y, at, e := hull.CheckOrder(s, x, make([]api.Drop, api.MaxDrops+1))
			return e, len(y) == 0 && at == 0
		}},
	}
}

// wrongShips are ships with each error that Check has.
func wrongShips() map[api.Errno]api.Ship {
	return map[api.Errno]api.Ship{
		api.ErrArg:   changed(func(s *api.Ship) { s.Meta = api.Curve{} }),
		api.ErrLimit: changed(func(s *api.Ship) { s.Mean.Knots = make([]api.Knot, api.MaxKnots+1) }),
		api.ErrTwice: changed(func(s *api.Ship) { s.Holds[1].ID = 1 }),
	}
}

// P3.2 to P3.10, R3, R4: the error of the ship comes before all others.
func TestErrorsOfShipsComeFirst(t *testing.T) {
	for want, s := range wrongShips() {
		equal(t, hull.Check(s), want)
		for _, c := range ofLoads() {
			for _, l := range []api.Load{whole(100), whole(4000), {}, loadOf(span(801, 802), span(0, 400), span(0, 400))} {
				e, empty := c.of(s, l)
				equal(t, e, want, c.name, l)
				equal(t, empty, true, c.name, l)
			}
		}
		for _, c := range ofLoadings() {
			for _, x := range [][]int{{0, 0}, nil, {500, 0}} {
				e, empty := c.of(s, x)
				equal(t, e, want, c.name, x)
				equal(t, empty, true, c.name, x)
			}
		}
		for _, m := range []int{400, 0} {
			f, e := hull.Meta(s, m)
			equal(t, e, want, m)
			equal(t, f, api.Frac{}, m)
		}
		equal(t, hull.Fits(s, whole(100), []int{0, 0}), false)
	}
}

// P3.2, R3, R4: the error of the load comes before all that a function looks at besides.
func TestErrorsOfLoadsComeNext(t *testing.T) {
	for _, k := range []struct {
		l    api.Load
		want api.Errno
	}{
		{api.Load{}, api.ErrArg},
		{loadOf(span(801, 4801), span(0, 400), span(0, 401)), api.ErrArg},
		{loadOf(span(801, 4801), span(0, 400), span(0, 400)), api.ErrLimit},
		{loadOf(span(801, 4800), span(0, 400), span(0, 400)), api.ErrClash},
	} {
		for _, c := range ofLoads() {
			e, empty := c.of(example(), k.l)
			equal(t, e, k.want, c.name, k.l)
			equal(t, empty, true, c.name, k.l)
		}
		equal(t, hull.Fits(example(), k.l, []int{400, 400}), false, k.l)
	}
}

// P3.4, P3.7, P3.9: lists that are no loadings.
func TestWrongLoadings(t *testing.T) {
	for _, c := range ofLoadings() {
		for _, x := range [][]int{nil, {}, {0}, {0, 0, 0}, make([]int, 9), {401, 0}, {0, 401}, {-1, 0}, {0, -1}, {minInt, 0}, {0, maxInt}} {
			e, empty := c.of(example(), x)
			equal(t, e, api.ErrArg, c.name, x)
			equal(t, empty, true, c.name, x)
		}
	}
	_, e := hull.Displacement(bare(), []int{0})
	equal(t, e, api.ErrArg, "there is no hold")
}

// roomy returns a copy of a list with something behind its end, and a test that it is still there.
func roomy[T comparable](l []T, mark T) ([]T, func() bool) {
	long := append(slices.Clone(l), mark, mark)
	return long[:len(l)], func() bool {
		return slices.Equal(long[:len(l)], l) && long[len(l)] == mark && long[len(l)+1] == mark
	}
}

// R6: arguments are not changed, nor is what lies behind their ends.
func TestArgumentsStay(t *testing.T) {
	forLoads(t, func(d *dice, s api.Ship, l api.Load) {
		var tests [10]func() bool
		x, form, out := d.loading(l), d.form(s), d.out(s, l)
		s.Holds, tests[0] = roomy(s.Holds, api.Hold{ID: -7})
		s.Mean.Knots, tests[1] = roomy(s.Mean.Knots, api.Knot{X: -7})
		s.Meta.Knots, tests[2] = roomy(s.Meta.Knots, api.Knot{X: -7})
		l.Holds, tests[3] = roomy(l.Holds, span(-7, -7))
		x, tests[4] = roomy(x, -7)
		form, tests[5] = roomy(form, -7)
		out, tests[6] = roomy(out, span(-7, -7))
		n, _ := hull.Narrow(s, l)
		p, _ := hull.Most(s, l, form)
		p.Loading, tests[7] = roomy(p.Loading, -7)
		hull.CheckMost(s, l, form, p)
		hull.Fits(s, l, x)
		hull.Stiff(s, x)
		hull.Afloat(s, x)
		bad, _, _ := hull.Steady(s, l)
		parts, _ := hull.Prove(s, l)
		parts, tests[8] = roomy(parts, api.Part{Price: -7})
		hull.CheckSteady(s, l, parts)
		_, deep, _ := hull.Deepest(s, l)
		zero := make([]int, len(s.Holds))
		drops, _ := hull.Order(s, x, zero, 3)
		drops, tests[9] = roomy(drops, api.Drop{Hold: -7})
		left, _, _ := hull.CheckOrder(s, x, drops)
		b, _ := hull.Behind(s, l, out)
		for _, list := range [][]int{bad, deep, left} {
			clear(list)
		}
		clear(n.Holds)
		clear(b.Holds)
		for i, is := range tests {
			equal(t, is(), true, i, s, l)
		}
		sameList(t, zero, make([]int, len(s.Holds)))
	})
}

// R6: results are new memory.
func TestResultsAreNew(t *testing.T) {
	s, l := example(), whole(100)
	for range 2 {
		n, e := hull.Narrow(s, l)
		good(t, e)
		sameLoad(t, n, loadOf(span(0, 100), span(0, 100), span(0, 100)))
		b, e := hull.Behind(s, l, []api.Span{span(0, 0), span(0, 0)})
		good(t, e)
		sameLoad(t, b, l)
		x := []int{3, 4}
		left, _, e := hull.CheckOrder(s, x, nil)
		good(t, e)
		sameList(t, left, []int{3, 4})
		left[0], b.Holds[0].Lo, n.Holds[0].Hi = 9, 9, 9
		sameList(t, x, []int{3, 4})
		equal(t, l.Holds[0], span(0, 400))
	}
}

// R7: the same arguments have the same results, whatever was asked before.
func TestSameResultsAgain(t *testing.T) {
	forLoads(t, func(d *dice, s api.Ship, l api.Load) {
		form, x := d.form(s), d.loading(l)
		zero := make([]int, len(s.Holds))
		p, _ := hull.Most(s, l, form)
		y, _, _ := hull.Steady(s, l)
		parts, _ := hull.Prove(s, l)
		_, deep, _ := hull.Deepest(s, l)
		drops, _ := hull.Order(s, x, zero, 3)
		c, k := clone(s), cloneLoad(l)
		for range 3 {
			q, _ := hull.Most(c, k, form)
			sameList(t, q.Loading, p.Loading, s, l, form)
			equal(t, q.Price, p.Price, s, l, form)
			z, _, _ := hull.Steady(c, k)
			sameList(t, z, y, s, l)
			again, _ := hull.Prove(c, k)
			sameList(t, again, parts, s, l)
			_, down, _ := hull.Deepest(c, k)
			sameList(t, down, deep, s, l)
			steps, _ := hull.Order(c, x, zero, 3)
			sameList(t, steps, drops, s, x)
		}
	})
}
