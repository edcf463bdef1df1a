package hull_test

import (
	"slices"
	"testing"

	"kentledge/api"
	"kentledge/hull"
)

// floats fails unless all that is told of a loading is right by the words of the chapter.
func floats(t *testing.T, s api.Ship, x []int) {
	t.Helper()
	d, e := hull.Displacement(s, x)
	good(t, e, s, x)
	equal(t, d, s.Light+sum(x), s, x)
	m, e := hull.Moment(s, x)
	good(t, e, s, x)
	equal(t, m, momentByWords(s, x), s, x)
	g, e := hull.Gravity(s, x)
	good(t, e, s, x)
	equal(t, g, fracOf(over(riseByWords(s, x), d)), s, x)
	v, e := hull.Meta(s, d)
	good(t, e, s, x)
	equal(t, v, fracOf(valueByWords(s.Meta, d)), s, x)
	f, e := hull.Stiff(s, x)
	good(t, e, s, x)
	equal(t, f, fracOf(stiffByWords(s, x)), s, x)
	a, e := hull.Afloat(s, x)
	good(t, e, s, x)
	equal(t, a, afloatByWords(s, x), s, x)
}

// P3.4, P3.7
func TestFloatsByTheWords(t *testing.T) {
	forShips(t, func(d *dice, s api.Ship) {
		for _, x := range inSpans(roomsOf(s)) {
			if d.between(0, 7) == 0 {
				floats(t, s, x)
			}
		}
	})
	forLarge(t, func(d *dice, s api.Ship, l api.Load) {
		for range 20 {
			floats(t, s, d.loading(l))
		}
	})
	s := huge()
	d := &dice{state: 5}
	for range 200 {
		var x []int
		for _, h := range s.Holds {
			x = append(x, []int{0, 1, h.Room - 1, h.Room}[d.between(0, 3)])
		}
		floats(t, s, x)
		s.Lever, s.Turn, s.Light = -s.Lever, d.between(1, api.MaxTurn), d.between(1, 8)
	}
}

// P3.4
func TestFloatsOfTheExample(t *testing.T) {
	s, x := example(), []int{100, 200}
	d, e := hull.Displacement(s, x)
	equal(t, d, 700)
	equal(t, e, api.OK)
	m, e := hull.Moment(s, x)
	equal(t, m, -5000)
	equal(t, e, api.OK)
	g, e := hull.Gravity(s, x)
	equal(t, g, frac(760, 7))
	equal(t, e, api.OK)
	f, e := hull.Stiff(s, x)
	equal(t, f, frac(615, 14))
	equal(t, e, api.OK)
	floats(t, s, x)
	floats(t, s, []int{0, 0})
	floats(t, s, []int{400, 400})
	floats(t, bare(), nil)
	floats(t, bare(), []int{})
}

// P3.4: the ends of the curve, its knots, and masses between the scores.
func TestMeta(t *testing.T) {
	for _, c := range []struct {
		mass int
		want api.Frac
		e    api.Errno
	}{
		{700, frac(305, 2), api.OK}, {400, frac(160, 1), api.OK}, {1200, frac(140, 1), api.OK}, {401, frac(6399, 40), api.OK},
		{1199, frac(5601, 40), api.OK}, {399, api.Frac{}, api.ErrArg}, {1201, api.Frac{}, api.ErrArg}, {0, api.Frac{}, api.ErrArg},
		{-700, api.Frac{}, api.ErrArg}, {minInt, api.Frac{}, api.ErrArg}, {maxInt, api.Frac{}, api.ErrArg},
	} {
		v, e := hull.Meta(example(), c.mass)
		equal(t, v, c.want, c.mass)
		equal(t, e, c.e, c.mass)
	}
	s := changed(func(s *api.Ship) { s.Meta = curveOf(7, 9, 0, 10, 160, 11, 100, 12, 170, 31, 0) })
	for m := 400; m <= 1200; m++ {
		v, e := hull.Meta(s, m)
		equal(t, v, fracOf(valueByWords(s.Meta, m)), m)
		equal(t, e, api.OK, m)
	}
	s.Light = 401
	_, e := hull.Meta(s, 400)
	equal(t, e, api.ErrArg, "on the curve, but lighter than the ship")
	s.Light, s.Holds[0].Room = 400, 399
	_, e = hull.Meta(s, 1200)
	equal(t, e, api.ErrArg, "on the curve, but heavier than the full ship")
	v, e := hull.Meta(bare(), 400)
	equal(t, v, frac(160, 1))
	equal(t, e, api.OK)
	s = changed(func(s *api.Ship) { s.Meta = curveOf(0, 0, 0, 31, 0) })
	v, e = hull.Meta(s, 777)
	equal(t, v, frac(0, 1), "0 is 0 / 1")
	equal(t, e, api.OK)
}

// P3.4: lowest terms also where the denominator is greater than that of any fraction of layer 1.
func TestStiffWithALargeDenominator(t *testing.T) {
	s := changed(func(s *api.Ship) {
		s.Light, s.Holds[0].Room, s.Holds[1].Room = 40001, 13, 0
		s.Mean, s.Meta = curveOf(0, 0, 0, 1999, 9), curveOf(0, 0, 0, 1999, 1)
	})
	f, e := hull.Stiff(s, []int{10, 0})
	good(t, e)
	equal(t, f, fracOf(stiffByWords(s, []int{10, 0})))
	if f.Den <= api.MaxDen {
		t.Error("the denominator is small", f)
	}
}

// P3.7
func TestAfloat(t *testing.T) {
	s := example()
	a, e := hull.Afloat(s, []int{100, 200})
	equal(t, a, api.Draughts{Fore: span(0, 0), Aft: span(500, 500)})
	equal(t, e, api.OK)
	s.Mean.Err = 3
	a, e = hull.Afloat(s, []int{1, 0})
	equal(t, a, api.Draughts{Fore: span(100, 106), Aft: span(95, 101)})
	equal(t, e, api.OK)
	a, e = hull.Afloat(s, []int{0, 1}) // 100.5 -+ 2.5
	equal(t, a, api.Draughts{Fore: span(95, 101), Aft: span(100, 106)})
	equal(t, e, api.OK)
	s.Turn = 1 // 250 -+ 2500: the end that rises has a draught below 0
	a, e = hull.Afloat(s, []int{100, 200})
	equal(t, a, api.Draughts{Fore: span(-2253, -2247), Aft: span(2747, 2753)})
	equal(t, e, api.OK)
	s.Turn = 7 // 100.5 and 103 - 1/14 - .. : rounded outwards also below 0
	s.Lever = -100
	floats(t, s, []int{1, 0})
	floats(t, s, []int{400, 0})
}

// deepestByWords looks at all loadings.
func deepestByWords(s api.Ship, l api.Load) int {
	deep := minInt
	for _, x := range loadingsOf(l) {
		deep = max(deep, deepByWords(s, x))
	}
	return deep
}

// P3.8
func TestDeepest(t *testing.T) {
	n, x, e := hull.Deepest(example(), loadOf(span(300, 300), span(100, 100), span(200, 200)))
	equal(t, n, 500)
	sameList(t, x, []int{100, 200})
	equal(t, e, api.OK)
	n, x, e = hull.Deepest(bare(), loadOf(span(0, 9)))
	equal(t, n, 100)
	sameList(t, x, nil)
	equal(t, e, api.OK)
	fore, aft := 0, 0
	forLoads(t, func(d *dice, s api.Ship, l api.Load) {
		n, x, e := hull.Deepest(s, l)
		good(t, e, s, l)
		equal(t, n, deepestByWords(s, l), s, l)
		equal(t, contains(loadingsOf(l), x), true, s, l, x)
		equal(t, deepByWords(s, x), n, s, l, x)
		if a := afloatByWords(s, x); a.Fore.Hi > a.Aft.Hi {
			fore++
		} else if a.Aft.Hi > a.Fore.Hi {
			aft++
		}
	})
	if min(fore, aft) < 100 {
		t.Error("too few ships that lie deeper fore, or aft", fore, aft)
	}
}

// P3.8: a draught of 0 is one, too; and the loading is one of the load.
func TestDeepestOfNothing(t *testing.T) {
	s := example()
	s.Mean = curveOf(0, 10, 0, 30, 1)
	s.Holds[0].Lever, s.Holds[1].Lever = 0, 0
	n, x, e := hull.Deepest(s, whole(0))
	equal(t, n, 0)
	sameList(t, x, []int{0, 0})
	equal(t, e, api.OK)
	n, x, e = hull.Deepest(s, loadOf(span(3, 3), span(0, 2), span(2, 3)))
	equal(t, n, 1)
	equal(t, hull.Fits(s, loadOf(span(3, 3), span(0, 2), span(2, 3)), x), true, x)
	equal(t, e, api.OK)
}

// P3.8
func TestClear(t *testing.T) {
	l := loadOf(span(300, 300), span(100, 100), span(200, 200))
	for _, c := range []struct {
		depth, keel int
		want        bool
		e           api.Errno
	}{
		{550, 50, true, api.OK}, {550, 51, false, api.OK}, {549, 50, false, api.OK}, {500, 0, true, api.OK}, {499, 0, false, api.OK},
		{0, 0, false, api.OK}, {api.MaxY, api.MaxTall, true, api.OK}, {-1, 0, false, api.ErrArg}, {api.MaxY + 1, 0, false, api.ErrArg},
		{550, -1, false, api.ErrArg}, {api.MaxY, api.MaxTall + 1, false, api.ErrArg}, {maxInt, maxInt, false, api.ErrArg},
		{maxInt, 0, false, api.ErrArg}, {550, minInt, false, api.ErrArg}, {550, maxInt, false, api.ErrArg}, {minInt, 0, false, api.ErrArg},
	} {
		is, e := hull.Clear(example(), l, c.depth, c.keel)
		equal(t, is, c.want, c)
		equal(t, e, c.e, c)
	}
	forLoads(t, func(d *dice, s api.Ship, l api.Load) {
		deep := deepestByWords(s, l)
		keel := d.between(0, 9)
		for depth := max(0, deep+keel-1); depth <= deep+keel+1; depth++ {
			is, e := hull.Clear(s, l, depth, keel)
			equal(t, is, deep+keel <= depth, s, l, depth, keel)
			equal(t, e, api.OK, s, l)
		}
	})
}

// narrower rolls a load whose spans lie within those of another one, and that has loadings.
func (d *dice) narrower(l api.Load) api.Load {
	x := d.loading(l)
	n := cloneLoad(l)
	for i, p := range l.Holds {
		n.Holds[i] = span(d.between(p.Lo, x[i]), d.between(x[i], p.Hi))
	}
	n.All = span(d.between(l.All.Lo, sum(x)), d.between(sum(x), l.All.Hi))
	return n
}

// P3.14
func TestNarrowerSpans(t *testing.T) {
	steadier := 0
	look := func(d *dice, s api.Ship, l api.Load) {
		n := d.narrower(l)
		wide, _, e := hull.Deepest(s, l)
		good(t, e, s, l)
		deep, _, e := hull.Deepest(s, n)
		good(t, e, s, n)
		equal(t, deep <= wide, true, s, l, n)
		_, was, e := hull.Steady(s, l)
		good(t, e, s, l)
		_, is, e := hull.Steady(s, n)
		good(t, e, s, n)
		equal(t, is || !was, true, s, l, n)
		if is && !was {
			steadier++
		}
	}
	forLoads(t, look)
	forLarge(t, look)
	if steadier < 50 {
		t.Error("too few that become steady", steadier)
	}
}

// P3.14: no loading lies deeper, in large ships as well.
func TestNoLoadingLiesDeeper(t *testing.T) {
	forLarge(t, func(d *dice, s api.Ship, l api.Load) {
		n, x, e := hull.Deepest(s, l)
		good(t, e, s, l)
		equal(t, hull.Fits(s, l, x), true, s, l, x)
		equal(t, deepByWords(s, x), n, s, l, x)
		for range 50 {
			y := d.loading(l)
			a, e := hull.Afloat(s, y)
			good(t, e, s, y)
			equal(t, max(a.Fore.Hi, a.Aft.Hi) <= n, true, s, l, y)
		}
	})
}

// P3.8, P3.14: the limits of what is multiplied.
func TestDeepestOfHuge(t *testing.T) {
	s := huge()
	l := loadOf(span(30000, 33999), roomsOf(s)...)
	d := &dice{state: 8}
	n, x, e := hull.Deepest(s, l)
	good(t, e)
	equal(t, hull.Fits(s, l, x), true, x)
	equal(t, deepByWords(s, x), n)
	for range 300 {
		y := d.loading(l)
		equal(t, deepByWords(s, y) <= n, true, y)
	}
	s.Turn = 1
	n, x, e = hull.Deepest(s, l)
	good(t, e)
	equal(t, deepByWords(s, x), n)
	// fore the holds ahead are filled first; the moment is then as great as the bound of the levers
	form := make([]int, len(s.Holds))
	for i, h := range s.Holds {
		form[i] = h.Lever
	}
	p, e := hull.Most(s, l, slices.Clone(form))
	good(t, e)
	equal(t, momentByWords(s, x)-s.Light*s.Lever <= p.Value, true, x, p)
}
