package hull_test

import (
	"testing"

	"kentledge/api"
	"kentledge/hull"
)

// P3.2
func TestCheckLoad(t *testing.T) {
	for _, c := range []struct {
		l    api.Load
		want api.Errno
	}{
		{whole(800), api.OK},
		{loadOf(span(300, 350), span(0, 400), span(100, 200)), api.OK},
		{loadOf(span(400, 400), span(400, 400), span(0, 0)), api.OK},
		{loadOf(span(800, 4799), span(0, 400), span(0, 400)), api.OK},
		{loadOf(span(801, 900), span(0, 400), span(0, 400)), api.ErrClash},
		{loadOf(span(0, 99), span(0, 400), span(100, 200)), api.ErrClash},
		{loadOf(span(0, 100), span(0, 400), span(100, 200)), api.OK},
		{loadOf(span(600, 601), span(0, 400), span(100, 200)), api.OK},
		{loadOf(span(601, 601), span(0, 400), span(100, 200)), api.ErrClash},
		{loadOf(span(0, 3999), span(0, 400), span(0, 400)), api.OK},
		{loadOf(span(0, 4000), span(0, 400), span(0, 400)), api.ErrLimit},
		{loadOf(span(0, api.MaxMass), span(0, 400), span(0, 400)), api.ErrLimit},
		{loadOf(span(801, 4801), span(0, 400), span(0, 400)), api.ErrLimit},
		{loadOf(span(0, api.MaxMass+1), span(0, 400), span(0, 400)), api.ErrArg},
		{loadOf(span(api.MaxMass-9, api.MaxMass), span(0, 400), span(0, 400)), api.ErrClash},
		{loadOf(span(api.MaxMass, api.MaxMass+1), span(0, 400), span(0, 400)), api.ErrArg},
		{loadOf(span(-1, 9), span(0, 400), span(0, 400)), api.ErrArg},
		{loadOf(span(9, 8), span(0, 400), span(0, 400)), api.ErrArg},
		{loadOf(span(minInt, maxInt), span(0, 400), span(0, 400)), api.ErrArg},
		{loadOf(span(maxInt, minInt), span(0, 400), span(0, 400)), api.ErrArg},
		{loadOf(span(0, 9), span(0, 401), span(0, 400)), api.ErrArg},
		{loadOf(span(0, 9), span(0, 400), span(0, 401)), api.ErrArg},
		{loadOf(span(0, 9), span(-1, 400), span(0, 400)), api.ErrArg},
		{loadOf(span(0, 9), span(0, 400), span(3, 2)), api.ErrArg},
		{loadOf(span(0, 9), span(maxInt, minInt), span(0, 400)), api.ErrArg},
		{loadOf(span(0, 9), span(0, 400)), api.ErrArg},
		{loadOf(span(0, 9), span(0, 400), span(0, 400), span(0, 0)), api.ErrArg},
		{loadOf(span(0, 9)), api.ErrArg},
		{loadOf(span(0, 4000), span(0, 400), span(0, 401)), api.ErrArg},
		{api.Load{}, api.ErrArg},
	} {
		equal(t, hull.CheckLoad(example(), c.l), c.want, c.l)
	}
}

// P3.2: no hold has just the loading without masses.
func TestLoadsWithoutHolds(t *testing.T) {
	equal(t, hull.CheckLoad(bare(), api.Load{}), api.OK)
	equal(t, hull.CheckLoad(bare(), loadOf(span(0, 9))), api.OK)
	equal(t, hull.CheckLoad(bare(), loadOf(span(1, 9))), api.ErrClash)
	equal(t, hull.CheckLoad(bare(), loadOf(span(0, 0), span(0, 0))), api.ErrArg)
	equal(t, hull.Fits(bare(), loadOf(span(0, 9)), nil), true)
	equal(t, hull.Fits(bare(), loadOf(span(0, 9)), []int{}), true)
	equal(t, hull.Fits(bare(), loadOf(span(0, 9)), []int{0}), false)
	n, e := hull.Narrow(bare(), loadOf(span(0, 9)))
	good(t, e)
	sameLoad(t, n, loadOf(span(0, 0)))
}

// P3.2
func TestFits(t *testing.T) {
	l := loadOf(span(300, 350), span(0, 400), span(100, 200))
	for _, c := range []struct {
		x    []int
		want bool
	}{
		{[]int{150, 200}, true}, {[]int{151, 200}, false}, {[]int{100, 200}, true}, {[]int{99, 200}, false},
		{[]int{201, 99}, false}, {[]int{200, 100}, true}, {[]int{120, 201}, false}, {[]int{400, -50}, false},
		{[]int{-1, 301}, false}, {[]int{300}, false}, {[]int{150, 200, 0}, false}, {nil, false},
		{[]int{maxInt, minInt}, false}, {make([]int, 9), false},
	} {
		equal(t, hull.Fits(example(), l, c.x), c.want, c.x)
	}
	x := []int{150, 200}
	equal(t, hull.Fits(changed(func(s *api.Ship) { s.Turn = 0 }), l, x), false, "a wrong ship")
	l.All.Hi = 4300
	equal(t, hull.Fits(example(), l, x), false, "a load with too many totals")
	equal(t, hull.Fits(example(), loadOf(span(300, 350), span(0, 401), span(100, 200)), x), false, "a wrong span")
	forLoads(t, func(d *dice, s api.Ship, l api.Load) {
		if d.between(0, 4) == 0 {
			l.All = d.span(0, 30)
		}
		fine := loadingsOf(l)
		for _, x := range inSpans(roomsOf(s)) {
			equal(t, hull.Fits(s, l, x), contains(fine, x), s, l, x)
		}
	})
}

// P3.2
func TestNarrow(t *testing.T) {
	for _, c := range []struct{ l, want api.Load }{
		{loadOf(span(100, 150), span(0, 400), span(100, 200)), loadOf(span(100, 150), span(0, 50), span(100, 150))},
		{loadOf(span(0, 120), span(0, 400), span(100, 200)), loadOf(span(100, 120), span(0, 20), span(100, 120))},
		{loadOf(span(590, 900), span(0, 400), span(100, 200)), loadOf(span(590, 600), span(390, 400), span(190, 200))},
		{loadOf(span(0, 900), span(0, 400), span(100, 200)), loadOf(span(100, 600), span(0, 400), span(100, 200))},
		{loadOf(span(7, 7), span(0, 400), span(7, 7)), loadOf(span(7, 7), span(0, 0), span(7, 7))},
	} {
		n, e := hull.Narrow(example(), c.l)
		good(t, e, c.l)
		sameLoad(t, n, c.want, c.l)
	}
}

// P3.10
func TestBehind(t *testing.T) {
	l := loadOf(span(150, 250), span(100, 200), span(50, 50))
	for _, c := range []struct {
		out  []api.Span
		want api.Load
	}{
		{[]api.Span{span(20, 30), span(0, 10)}, loadOf(span(110, 230), span(70, 180), span(40, 50))},
		{[]api.Span{span(0, 0), span(0, 0)}, l},
		{[]api.Span{span(20, 120), span(0, 60)}, loadOf(span(0, 230), span(0, 180), span(0, 50))},
		{[]api.Span{span(0, 149), span(0, 0)}, loadOf(span(1, 250), span(0, 200), span(50, 50))},
		{[]api.Span{span(0, 151), span(0, 0)}, loadOf(span(0, 250), span(0, 200), span(50, 50))},
		{[]api.Span{span(200, 200), span(50, 400)}, loadOf(span(0, 0), span(0, 0), span(0, 0))},
		{[]api.Span{span(5, 5), span(50, 50)}, loadOf(span(95, 195), span(95, 195), span(0, 0))},
	} {
		b, e := hull.Behind(example(), l, c.out)
		good(t, e, c.out)
		sameLoad(t, b, c.want, c.out)
	}
	b, e := hull.Behind(bare(), loadOf(span(0, 9)), nil)
	good(t, e)
	sameLoad(t, b, loadOf(span(0, 9)), "no hold")
}

// P3.10: the errors in their order.
func TestErrorsOfBehind(t *testing.T) {
	l := loadOf(span(150, 250), span(100, 200), span(50, 50))
	for _, c := range []struct {
		l    api.Load
		out  []api.Span
		want api.Errno
	}{
		{l, nil, api.ErrArg},
		{l, []api.Span{span(0, 0)}, api.ErrArg},
		{l, []api.Span{span(0, 0), span(0, 0), span(0, 0)}, api.ErrArg},
		{l, []api.Span{span(0, 401), span(0, 0)}, api.ErrArg},
		{l, []api.Span{span(0, 0), span(-1, 0)}, api.ErrArg},
		{l, []api.Span{span(0, 0), span(2, 1)}, api.ErrArg},
		{l, []api.Span{span(minInt, maxInt), span(0, 0)}, api.ErrArg},
		{l, []api.Span{span(201, 201), span(0, 0)}, api.ErrArg},
		{l, []api.Span{span(200, 200), span(51, 51)}, api.ErrArg},
		{l, []api.Span{span(0, 400), span(50, 400)}, api.OK},
		{loadOf(span(150, 240), l.Holds...), []api.Span{span(200, 200), span(41, 50)}, api.ErrArg},
		{loadOf(span(150, 240), l.Holds...), []api.Span{span(200, 200), span(40, 50)}, api.OK},
		{loadOf(span(10, 10), span(10, 10), span(0, 10)), []api.Span{span(0, 0), span(5, 5)}, api.ErrClash},
		{loadOf(span(401, 4400), span(0, 400), span(0, 400)), []api.Span{span(0, 0), span(0, 0)}, api.OK},
		{loadOf(span(401, 4400), span(0, 400), span(0, 400)), []api.Span{span(0, 1), span(0, 0)}, api.ErrLimit},
		{loadOf(span(401, 4400), span(0, 400), span(0, 400)), []api.Span{span(0, 401), span(0, 0)}, api.ErrArg},
		{loadOf(span(10, 4009), span(10, 10), span(0, 10)), []api.Span{span(0, 10), span(0, 10)}, api.ErrLimit},
		{loadOf(span(0, 4000), span(10, 10), span(0, 10)), []api.Span{span(3, 2), span(0, 10)}, api.ErrLimit},
		{loadOf(span(30, 40), span(10, 10), span(0, 10)), []api.Span{span(3, 2), span(0, 10)}, api.ErrClash},
	} {
		b, e := hull.Behind(example(), c.l, c.out)
		equal(t, e, c.want, c)
		if e != api.OK {
			sameLoad(t, b, api.Load{}, c)
		}
	}
}
