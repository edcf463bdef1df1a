package curve_test

import (
	"math/big"
	"slices"
	"testing"

	"kentledge/api"
	"kentledge/curve"
)

// bounds fails unless a peak is the least and the greatest of some values, and has the first place of each.
func bounds(t *testing.T, p api.Peak, s api.Span, at func(int) *big.Rat, about ...any) {
	t.Helper()
	lo, hi := s.Lo, s.Lo
	for x := s.Lo; x <= s.Hi; x++ {
		if at(x).Cmp(at(lo)) < 0 {
			lo = x
		}
		if at(x).Cmp(at(hi)) > 0 {
			hi = x
		}
	}
	equal(t, p, api.Peak{Lo: fracOf(at(lo)), Hi: fracOf(at(hi)), AtLo: lo, AtHi: hi}, s, about)
}

// P1.13, and P1.3: Over bounds all values, attains both ends, and is not wider over a part.
func TestBoundsOfOver(t *testing.T) {
	forCurves(t, func(d *dice, c api.Curve) {
		whole, e := curve.Domain(c)
		good(t, e, c)
		s := d.part(whole)
		p, e := curve.Over(c, s)
		good(t, e, c, s)
		bounds(t, p, s, func(x int) *big.Rat { return valueAt(t, c, rat(x)) }, c)
		equal(t, curve.CheckOver(c, s, p), api.OK, c, s)
		part := d.part(s)
		q, e := curve.Over(c, part)
		good(t, e, c, part)
		if ratOf(q.Lo).Cmp(ratOf(p.Lo)) < 0 || ratOf(q.Hi).Cmp(ratOf(p.Hi)) > 0 {
			t.Error("wider over a part", c, s, part)
		}
		between := new(big.Rat).SetFrac64(int64(2*s.Lo+1), 2)
		if s.Lo < s.Hi {
			if v := valueAt(t, c, between); v.Cmp(ratOf(p.Lo)) < 0 || v.Cmp(ratOf(p.Hi)) > 0 {
				t.Error("a value between integers is outside", c, s)
			}
		}
	})
}

// P1.13, and P1.9: the same holds for Apart and differences.
func TestBoundsOfApart(t *testing.T) {
	met := 0
	forPairs(t, func(d *dice, a, b api.Curve) {
		both := shared(a, b)
		if both.Lo > both.Hi {
			return
		}
		met++
		s := d.part(both)
		p, e := curve.Apart(a, b, s)
		good(t, e, a, b, s)
		bounds(t, p, s, func(x int) *big.Rat {
			return new(big.Rat).Sub(valueAt(t, a, rat(x)), valueAt(t, b, rat(x)))
		}, a, b)
	})
	if met < 1000 {
		t.Error("too few domains meet", met)
	}
}

// P1.14: Inverse is one, and has the direction of the curve.
func TestInversesAreInverses(t *testing.T) {
	forSteady(t, func(d *dice, c api.Curve, way int) {
		n, e := curve.Rising(c)
		good(t, e, c)
		if len(c.Knots) == 1 {
			way = 1
		}
		equal(t, n, way, c)
		first, last := c.Knots[0].Y, c.Knots[len(c.Knots)-1].Y
		var before *big.Rat
		for y := min(first, last); y <= max(first, last); y += 1 + (max(first, last)-y)/50 {
			x, e := curve.Inverse(c, y)
			good(t, e, c, y)
			if v := valueAt(t, c, ratOf(x)); v.Cmp(rat(y)) != 0 {
				t.Error("another value there", c, y, x, v)
			}
			if x.Den == 1 {
				v, e := curve.Value(c, x.Num)
				good(t, e, c, y)
				equal(t, v, frac(y, 1), c, x)
			}
			equal(t, x, fracOf(ratOf(x)), "lowest terms")
			if before != nil && ratOf(x).Cmp(before) != way {
				t.Error("not in the curve's direction", c, y)
			}
			before = ratOf(x)
		}
		for _, y := range []int{min(first, last) - 1, max(first, last) + 1} {
			_, e := curve.Inverse(c, y)
			equal(t, e, api.ErrRange, c, y)
		}
	})
}

// P1.14: an integer lies in Reach exactly if the true values there meet the span.
func TestReachMeetsValues(t *testing.T) {
	forSteady(t, func(d *dice, c api.Curve, way int) {
		lo := d.between(-40, 40)
		s := span(lo, lo+d.between(0, 6))
		r, e := curve.Reach(c, s)
		if e != api.OK && e != api.ErrNone {
			t.Fatal(c, s, e)
		}
		for x := c.Knots[0].X; x <= c.Knots[len(c.Knots)-1].X; x++ {
			v, bad := curve.Values(c, x)
			good(t, bad, c, x)
			meets := ratOf(v.Lo).Cmp(rat(s.Hi)) <= 0 && rat(s.Lo).Cmp(ratOf(v.Hi)) <= 0
			lies := e == api.OK && ratOf(r.Lo).Cmp(rat(x)) <= 0 && rat(x).Cmp(ratOf(r.Hi)) <= 0
			equal(t, lies, meets, c, s, x)
		}
	})
}

// integers returns all X at which a curve has an integer value.
func integers(t *testing.T, c api.Curve) []int {
	t.Helper()
	var l []int
	for x := c.Knots[0].X; x <= c.Knots[len(c.Knots)-1].X; x++ {
		if valueAt(t, c, rat(x)).IsInt() {
			l = append(l, x)
		}
	}
	return l
}

// sameValues fails unless two curves have the same values at all integers of a span.
func sameValues(t *testing.T, a, b api.Curve, s api.Span) {
	t.Helper()
	for x := s.Lo; x <= s.Hi; x++ {
		if valueAt(t, a, rat(x)).Cmp(valueAt(t, b, rat(x))) != 0 {
			t.Error("other values", a, b, x)
			return
		}
	}
}

// P1.15: Refine and Thin change no value; Thin undoes Refine and leaves no knot that could be left out.
func TestRefineAndThin(t *testing.T) {
	forCurves(t, func(d *dice, c api.Curve) {
		all := integers(t, c)
		xs := []int{}
		for range d.between(0, 4) {
			xs = append(xs, all[d.between(0, len(all)-1)])
		}
		r, e := curve.Refine(c, xs)
		if e == api.ErrLimit && len(c.Knots) > 30 {
			return
		}
		good(t, e, c, xs)
		valid(t, r)
		for _, x := range xs {
			if !slices.ContainsFunc(r.Knots, func(k api.Knot) bool { return k.X == x }) {
				t.Error("no knot", c, x)
			}
		}
		thin, e := curve.Thin(c)
		good(t, e, c)
		valid(t, thin)
		again, e := curve.Thin(r)
		good(t, e, r)
		sameCurve(t, again, thin, c, xs)
		for _, o := range []api.Curve{r, thin} {
			equal(t, shared(o, o), shared(c, c), "the domain", c, o)
			sameValues(t, o, c, shared(c, c))
			is, e := curve.Same(o, c)
			good(t, e, o, c)
			equal(t, is, true, o, c)
		}
		for i := 1; i+1 < len(thin.Knots); i++ {
			without := api.Curve{Knots: slices.Delete(slices.Clone(thin.Knots), i, i+1), Err: thin.Err}
			if k := thin.Knots[i]; valueAt(t, without, rat(k.X)).Cmp(rat(k.Y)) == 0 {
				t.Error("a knot that could be left out", thin, i)
			}
		}
	})
}

// P1.15: Cut has the same values, the knots of the span and its ends, and of the whole domain is the curve.
func TestCutKeepsValues(t *testing.T) {
	forCurves(t, func(d *dice, c api.Curve) {
		whole := shared(c, c)
		s := d.part(whole)
		r, e := curve.Cut(c, s)
		if !valueAt(t, c, rat(s.Lo)).IsInt() || !valueAt(t, c, rat(s.Hi)).IsInt() {
			equal(t, e, api.ErrRange, c, s)
			return
		}
		good(t, e, c, s)
		valid(t, r)
		equal(t, shared(r, r), s, "the domain", c)
		sameValues(t, r, c, s)
		for _, k := range c.Knots {
			has := slices.Contains(r.Knots, k)
			equal(t, has, s.Lo <= k.X && k.X <= s.Hi, c, s, k)
		}
		for _, k := range r.Knots {
			if k.X != s.Lo && k.X != s.Hi && !slices.Contains(c.Knots, k) {
				t.Error("a knot that was none", c, s, k)
			}
		}
		r, e = curve.Cut(c, whole)
		good(t, e, c)
		sameCurve(t, r, c)
	})
}

// P1.15: values of Add and Minus are sums and differences, and Minus of Add has the values of the other one.
func TestAddAndMinusHaveSums(t *testing.T) {
	forCurves(t, func(d *dice, a api.Curve) {
		a.Err /= 4
		b := api.Curve{Knots: slices.Clone(a.Knots), Err: d.between(0, 3)}
		for i := range b.Knots {
			a.Knots[i].Y /= 4
			b.Knots[i].Y = d.between(-9, 9)
		}
		sum, e := curve.Add(a, b)
		good(t, e, a, b)
		rest, e := curve.Minus(a, b)
		good(t, e, a, b)
		equal(t, sum.Err, a.Err+b.Err, a, b)
		equal(t, rest.Err, a.Err+b.Err, a, b)
		for x := a.Knots[0].X; x <= a.Knots[len(a.Knots)-1].X; x++ {
			v, w := valueAt(t, a, rat(x)), valueAt(t, b, rat(x))
			if valueAt(t, sum, rat(x)).Cmp(new(big.Rat).Add(v, w)) != 0 {
				t.Error("no sum", a, b, x)
			}
			if valueAt(t, rest, rat(x)).Cmp(new(big.Rat).Sub(v, w)) != 0 {
				t.Error("no difference", a, b, x)
			}
		}
		for _, pair := range [][2]api.Curve{{a, b}, {b, a}} {
			other, e := curve.Minus(sum, pair[0])
			good(t, e, sum, pair)
			sameValues(t, other, pair[1], shared(a, a))
		}
	})
}

// P1.16: between neighbouring integers at most one number has equal values, unless all have; it lies in a span of Cross.
func TestCrossings(t *testing.T) {
	found := 0
	forPairs(t, func(d *dice, a, b api.Curve) {
		l, e := curve.Cross(a, b)
		good(t, e, a, b)
		first, s := signs(t, a, b)
		lies := func(from, to int) bool {
			return slices.ContainsFunc(l, func(o api.Span) bool { return o.Lo <= from && to <= o.Hi })
		}
		for i, sign := range s {
			if sign == 0 && !lies(first+i, first+i) {
				t.Error("equal, but in no span", a, b, first+i)
			}
			if i > 0 && s[i-1]*sign < 0 && !lies(first+i-1, first+i) {
				t.Error("crosses, but in no span", a, b, first+i)
			}
		}
		found += len(l)
		for i, o := range l {
			from, to := s[o.Lo-first], s[o.Hi-first]
			if from*to > 0 || from*to == 0 && (from != 0 || to != 0) {
				t.Error("a span without equal values at its ends or between them", a, b, o)
			}
			if i > 0 && l[i-1].Lo >= o.Lo {
				t.Error("not in order", a, b, l)
			}
		}
		last := 0
		for i, sign := range s {
			if lies(first+i, first+i) {
				last = 0
				continue
			}
			if last != 0 && last != sign {
				t.Error("the sign changes in no span", a, b, first+i)
			}
			last = sign
		}
	})
	if found < 1000 {
		t.Error("too few crossings", found)
	}
}

// P1.17, and P1.11: Clash and Both agree at every integer.
func TestClashAndBothAgree(t *testing.T) {
	clashes := 0
	forPairs(t, func(d *dice, a, b api.Curve) {
		both := shared(a, b)
		want, is := 0, false
		for x := both.Lo; x <= both.Hi; x++ {
			apart := new(big.Rat).Sub(valueAt(t, a, rat(x)), valueAt(t, b, rat(x)))
			far := apart.Abs(apart).Cmp(rat(a.Err+b.Err)) > 0
			if far && !is {
				want, is = x, true
			}
			_, e := curve.Both([]api.Curve{a, b}, x)
			equal(t, e == api.ErrClash, far, a, b, x)
			if !far {
				equal(t, e, api.OK, a, b, x)
			}
		}
		x, found, e := curve.Clash(a, b)
		equal(t, x, want, a, b)
		equal(t, found, is, a, b)
		equal(t, e, api.OK, a, b)
		if is {
			clashes++
		}
	})
	if clashes < 1000 {
		t.Error("too few clashes", clashes)
	}
}

// P1.17: curves that are true of one function do not clash, and the function lies in Both.
func TestTrueCurvesAgree(t *testing.T) {
	forCurves(t, func(d *dice, truth api.Curve) {
		for i := range truth.Knots {
			truth.Knots[i].Y /= 2
		}
		var l []api.Curve
		for range d.between(1, api.MaxSheaf) {
			c := api.Curve{Knots: slices.Clone(truth.Knots), Err: d.between(0, 5)}
			for i := range c.Knots {
				c.Knots[i].Y += d.between(-c.Err, c.Err)
			}
			l = append(l, c)
		}
		for _, a := range l {
			for _, b := range l {
				_, is, e := curve.Clash(a, b)
				good(t, e, a, b)
				equal(t, is, false, truth, a, b)
			}
		}
		for _, k := range truth.Knots {
			for _, x := range []int{k.X, (k.X + truth.Knots[0].X) / 2} {
				r, e := curve.Both(l, x)
				good(t, e, l, x)
				v := valueAt(t, truth, rat(x))
				if v.Cmp(ratOf(r.Lo)) < 0 || v.Cmp(ratOf(r.Hi)) > 0 {
					t.Error("the truth lies outside", truth, l, x)
				}
			}
		}
	})
}

// P1.11: Both of more than two curves is the meeting of all of their Values; Least the first least value.
func TestSheaves(t *testing.T) {
	d := &dice{state: 11}
	for range 2000 {
		var l []api.Curve
		for range d.between(1, api.MaxSheaf) {
			c := d.curve(5, 8, 5, 4)
			c.Knots = append(c.Knots, api.Knot{X: 10, Y: d.between(-3, 3)})
			l = append(l, c)
		}
		x := d.between(8, 10)
		lo, hi, at := rat(-1000), rat(1000), 0
		for i, c := range l {
			r, e := curve.Values(c, x)
			if e != api.OK {
				t.Fatal(c, x, e)
			}
			if ratOf(r.Lo).Cmp(lo) > 0 {
				lo = ratOf(r.Lo)
			}
			if ratOf(r.Hi).Cmp(hi) < 0 {
				hi = ratOf(r.Hi)
			}
			if valueAt(t, c, rat(x)).Cmp(valueAt(t, l[at], rat(x))) < 0 {
				at = i
			}
		}
		r, e := curve.Both(l, x)
		if lo.Cmp(hi) > 0 {
			equal(t, r, api.Range{}, l, x)
			equal(t, e, api.ErrClash, l, x)
		} else {
			equal(t, r, rangeOf(fracOf(lo), fracOf(hi)), l, x)
			equal(t, e, api.OK, l, x)
		}
		i, v, e := curve.Least(l, x)
		equal(t, i, at, l, x)
		equal(t, v, fracOf(valueAt(t, l[at], rat(x))), l, x)
		equal(t, e, api.OK, l, x)
	}
}
