package survey_test

import (
	"math/big"
	"slices"
	"testing"

	"kentledge/api"
	"kentledge/hull"
	"kentledge/survey"
)

const (
	minInt = -1 << 63
	maxInt = 1<<63 - 1
)

func span(lo, hi int) api.Span { return api.Span{Lo: lo, Hi: hi} }

// at is the span of one number.
func at(n int) api.Span { return span(n, n) }

func frac(num, den int) api.Frac { return api.Frac{Num: num, Den: den} }

// curveOf makes a curve of an error and of pairs of X and Y.
func curveOf(err int, xy ...int) api.Curve {
	c := api.Curve{Err: err}
	for i := 0; i < len(xy); i += 2 {
		c.Knots = append(c.Knots, api.Knot{X: xy[i], Y: xy[i+1]})
	}
	return c
}

// brig is the ship of the chapter's examples.
func brig() api.Ship {
	return api.Ship{
		ID: 1, Light: 400, Height: 100,
		Holds: []api.Hold{{ID: 1, Room: 400, Lever: 50, Height: 60}, {ID: 2, Room: 400, Lever: -50, Height: 150}},
		Mean:  curveOf(0, 10, 100, 30, 500), Meta: curveOf(0, 10, 160, 30, 140),
		Turn: 10, Least: 30,
	}
}

// bare is a ship without holds.
func bare(mean api.Curve) api.Ship {
	return api.Ship{ID: 1, Light: 400, Height: 100, Mean: mean, Meta: curveOf(0, 10, 160), Turn: 10, Least: 60}
}

// bulbs are those of the chapter's examples.
func bulbs() api.Bulbs {
	return api.Bulbs{Hydros: []api.Hydro{{ID: 1, Off: span(-5, 5)}}, Glasses: []api.Glass{{ID: 2, Hydro: 1, Dense: 1000, Shown: span(1001, 1003)}}}
}

// exact is a hydrometer 1 without error.
func exact() api.Bulbs { return api.Bulbs{Hydros: []api.Hydro{{ID: 1}}} }

// seven is the survey of the chapter's examples.
func seven() api.Survey {
	a, b, c := span(240, 244), span(250, 252), span(258, 262)
	return api.Survey{ID: 7, Marks: [6]api.Span{a, a, b, b, c, c}, Hydro: 1, Shown: at(1003)}
}

// withID is a survey with another ID.
func withID(id int, x api.Survey) api.Survey {
	x.ID = id
	return x
}

// level is a survey in water of the density 1000, by exact hydrometers, of a ship that lies level, with the same span at each mark.
func level(id int, p api.Span) api.Survey {
	return api.Survey{ID: id, Marks: [6]api.Span{p, p, p, p, p, p}, Hydro: 1, Shown: at(1000)}
}

// of is a survey of the brig, by exact hydrometers, by which just the masses from lo to hi are possible, which are even: the table rises by 1 for 2 hundredweights.
func of(id, lo, hi int) api.Survey { return level(id, span(lo/2-100, hi/2-100)) }

func rat(n int) *big.Rat { return big.NewRat(int64(n), 1) }

func over(num, den int) *big.Rat { return big.NewRat(int64(num), int64(den)) }

func ratOf(f api.Frac) *big.Rat { return over(f.Num, f.Den) }

func plus(a, b *big.Rat) *big.Rat { return new(big.Rat).Add(a, b) }

func minus(a, b *big.Rat) *big.Rat { return new(big.Rat).Sub(a, b) }

func times(a, b *big.Rat) *big.Rat { return new(big.Rat).Mul(a, b) }

// fracOf brings an exact number into lowest terms.
func fracOf(r *big.Rat) api.Frac {
	return frac(int(r.Num().Int64()), int(r.Denom().Int64()))
}

// valueByWords computes the value of a curve at a number of its domain, piece by piece.
func valueByWords(c api.Curve, x *big.Rat) *big.Rat {
	for i, p := range c.Knots {
		if rat(p.X).Cmp(x) == 0 {
			return rat(p.Y)
		}
		if i > 0 && x.Cmp(rat(p.X)) < 0 {
			o := c.Knots[i-1]
			return plus(rat(o.Y), times(over(p.Y-o.Y, p.X-o.X), minus(x, rat(o.X))))
		}
	}
	panic("outside of the domain")
}

// inDomain tells whether a curve has a value at a number.
func inDomain(c api.Curve, x *big.Rat) bool {
	return rat(c.Knots[0].X).Cmp(x) <= 0 && x.Cmp(rat(c.Knots[len(c.Knots)-1].X)) <= 0
}

// fullOf returns the mass of a ship whose holds are full.
func fullOf(s api.Ship) int {
	n := s.Light
	for _, h := range s.Holds {
		n += h.Room
	}
	return n
}

// errorsByWords returns all errors that a hydrometer can have by some glasses, trying each one.
func errorsByWords(h api.Hydro, glasses []api.Glass) []int {
	var l []int
	for n := h.Off.Lo; n <= h.Off.Hi; n++ {
		if !slices.ContainsFunc(glasses, func(g api.Glass) bool { return g.Hydro == h.ID && !shows(g, n) }) {
			l = append(l, n)
		}
	}
	return l
}

// shows tells whether a glass allows an error.
func shows(g api.Glass, n int) bool { return g.Shown.Lo <= g.Dense+n && g.Dense+n <= g.Shown.Hi }

// densityByWords returns the densities of the water of a survey, if there are some.
func densityByWords(b api.Bulbs, x api.Survey) (api.Span, bool) {
	for _, h := range b.Hydros {
		if h.ID != x.Hydro {
			continue
		}
		if l := errorsByWords(h, b.Glasses); len(l) > 0 {
			d := span(max(900, x.Shown.Lo-slices.Max(l)), min(1100, x.Shown.Hi-slices.Min(l)))
			return d, d.Lo <= d.Hi
		}
	}
	return api.Span{}, false
}

// bendsByWords tells whether six integers of the spans of the marks are draughts of a survey.
func bendsByWords(x api.Survey, d [6]int) bool {
	f, m, a := d[0]+d[1], d[2]+d[3], d[4]+d[5]
	return -4*x.Sag <= 2*m-f-a && 2*m-f-a <= 4*x.Sag
}

// forDraughts gives each six draughts of a survey.
func forDraughts(x api.Survey, what func(d [6]int)) {
	var d [6]int
	var next func(mark int)
	next = func(mark int) {
		if mark == 6 {
			if bendsByWords(x, d) {
				what(d)
			}
			return
		}
		for n := x.Marks[mark].Lo; n <= x.Marks[mark].Hi; n++ {
			d[mark] = n
			next(mark + 1)
		}
	}
	next(0)
}

func sixteenOf(d [6]int) int { return d[0] + d[1] + d[4] + d[5] + 6*(d[2]+d[3]) }

// sixteensByWords returns sixteen times the mean of each six draughts of a survey, in order, each number once.
func sixteensByWords(x api.Survey) []int {
	met := map[int]bool{}
	forDraughts(x, func(d [6]int) { met[sixteenOf(d)] = true })
	return inOrder(met)
}

// sixteensBySums is sixteensByWords for wide spans: a sum of marks can be each number from the least to the greatest one.
func sixteensBySums(x api.Survey) []int {
	m := x.Marks
	met := map[int]bool{}
	for mid := m[2].Lo + m[3].Lo; mid <= m[2].Hi+m[3].Hi; mid++ {
		for out := m[0].Lo + m[1].Lo + m[4].Lo + m[5].Lo; out <= m[0].Hi+m[1].Hi+m[4].Hi+m[5].Hi; out++ {
			if -4*x.Sag <= 2*mid-out && 2*mid-out <= 4*x.Sag {
				met[out+6*mid] = true
			}
		}
	}
	return inOrder(met)
}

func inOrder(met map[int]bool) []int {
	var l []int
	for n := range met {
		l = append(l, n)
	}
	slices.Sort(l)
	return l
}

// canHave tells whether a ship can have a volume by sixteen times the means of all draughts: the words of the chapter, both of the ways that they name.
func canHave(mean api.Curve, sixteens []int, x *big.Rat) bool {
	v, err := valueByWords(mean, x), rat(mean.Err)
	above, below := false, false
	for _, n := range sixteens {
		d := minus(over(n, 16), v)
		if new(big.Rat).Abs(d).Cmp(err) <= 0 {
			return true
		}
		above = above || d.Sign() > 0
		below = below || d.Sign() < 0
	}
	return above && below
}

// volumesByWords returns the least and the greatest volume that a ship can have, if there is one. Both are at ends of the domain, or where the value is as far from the least or the greatest mean as it may be.
func volumesByWords(mean api.Curve, sixteens []int) (lo, hi *big.Rat) {
	if len(sixteens) == 0 {
		return nil, nil
	}
	var at []*big.Rat
	for i, q := range mean.Knots {
		at = append(at, rat(q.X))
		if i == 0 {
			continue
		}
		p := mean.Knots[i-1]
		for _, v := range []*big.Rat{minus(over(sixteens[0], 16), rat(mean.Err)), plus(over(sixteens[len(sixteens)-1], 16), rat(mean.Err))} {
			x := plus(rat(p.X), times(over(q.X-p.X, q.Y-p.Y), minus(v, rat(p.Y))))
			if rat(p.X).Cmp(x) <= 0 && x.Cmp(rat(q.X)) <= 0 {
				at = append(at, x)
			}
		}
	}
	for _, x := range at {
		if !canHave(mean, sixteens, x) {
			continue
		}
		if lo == nil || x.Cmp(lo) < 0 {
			lo = x
		}
		if hi == nil || x.Cmp(hi) > 0 {
			hi = x
		}
	}
	return lo, hi
}

// massesByWords returns all masses that are possible, trying each one: with the density d it is 25 times the mass, divided by d, that has to be a volume.
func massesByWords(s api.Ship, density api.Span, lo, hi *big.Rat) []int {
	var l []int
	if lo == nil {
		return nil
	}
	for m := s.Light; m <= fullOf(s); m++ {
		if over(25*m, density.Hi).Cmp(hi) <= 0 && over(25*m, density.Lo).Cmp(lo) >= 0 {
			l = append(l, m)
		}
	}
	return l
}

// massByWords returns all masses that are possible by a valid survey with narrow marks.
func massByWords(s api.Ship, b api.Bulbs, x api.Survey) []int {
	density, _ := densityByWords(b, x)
	lo, hi := volumesByWords(s.Mean, sixteensByWords(x))
	return massesByWords(s, density, lo, hi)
}

// possibleOf returns all masses of a ship that Possible says are possible by all of some surveys.
func possibleOf(t *testing.T, s api.Ship, b api.Bulbs, l ...api.Survey) []int {
	t.Helper()
	var all []int
	for m := s.Light; m <= fullOf(s); m++ {
		if !slices.ContainsFunc(l, func(x api.Survey) bool {
			is, e := survey.Possible(s, b, x, m)
			good(t, e, s, b, x, m)
			return !is
		}) {
			all = append(all, m)
		}
	}
	return all
}

// ends returns the first and the last number of a list in order.
func ends(l []int) api.Span {
	if len(l) == 0 {
		return api.Span{}
	}
	return span(l[0], l[len(l)-1])
}

// dice rolls numbers, the same ones in each run.
type dice struct{ state uint64 }

func (d *dice) between(lo, hi int) int {
	d.state = d.state*6364136223846793005 + 1442695040888963407
	return lo + int((d.state>>33)%uint64(hi-lo+1))
}

func (d *dice) span(lo, hi int) api.Span {
	a, b := d.between(lo, hi), d.between(lo, hi)
	return span(min(a, b), max(a, b))
}

// around rolls a narrow span near a number, mostly with it.
func (d *dice) around(n, most int) api.Span {
	lo := max(0, n-d.between(0, most)+d.between(0, 4)/4)
	return span(lo, lo+d.between(0, most))
}

// curve rolls a curve that rises, and reaches from at most one mass to at least another one, often just to them.
func (d *dice) curve(from, to, step int) api.Curve {
	c := api.Curve{Err: d.between(0, 5) / 3}
	k := api.Knot{X: max(0, from/api.Score-d.between(0, 1)), Y: d.between(0, 60)}
	c.Knots = append(c.Knots, k)
	for k.X*api.Score < to {
		k = api.Knot{X: k.X + d.between(1, 3), Y: k.Y + d.between(1, step)}
		c.Knots = append(c.Knots, k)
	}
	return c
}

// ship rolls a small ship; some have no holds, or just one mass.
func (d *dice) ship() api.Ship {
	s := api.Ship{ID: d.between(1, 9), Light: d.between(1, 200), Lever: d.between(-9, 9), Height: d.between(0, 40), Turn: d.between(1, 300), Least: d.between(0, 30)}
	if d.between(0, 4) == 0 {
		s.Light = 40 * d.between(1, 5) // just on a score
	}
	for i := range d.between(0, 3) {
		s.Holds = append(s.Holds, api.Hold{ID: 7*i%5 + 1, Room: d.between(0, 50), Lever: d.between(-4, 4) * 9, Height: d.between(0, 5) * 14})
	}
	s.Mean = d.curve(s.Light, fullOf(s), 30)
	s.Meta = d.curve(s.Light, fullOf(s), 30)
	for i := range s.Meta.Knots {
		s.Meta.Knots[i].Y += d.between(0, 60)
	}
	return s
}

// bulbs rolls the hydrometers 1 to 3; the glasses of one of them may contradict each other, or it.
func (d *dice) bulbs(glasses int) api.Bulbs {
	var b api.Bulbs
	for _, id := range [3]int{2, 3, 1} {
		b.Hydros = append(b.Hydros, api.Hydro{ID: id, Off: d.span(-6, 6)})
	}
	for i := range d.between(0, glasses) {
		off := d.span(-6, 6)
		dense := d.between(980, 1020)
		b.Glasses = append(b.Glasses, api.Glass{ID: 7*i%11 + 1, Hydro: d.between(1, 3), Dense: dense, Shown: span(dense+off.Lo, dense+off.Hi)})
	}
	return b
}

// fine rolls hydrometers that can have an error.
func (d *dice) fine() api.Bulbs {
	for {
		b := d.bulbs(3)
		if !slices.ContainsFunc(b.Hydros, func(h api.Hydro) bool { return len(errorsByWords(h, b.Glasses)) == 0 }) {
			return b
		}
	}
}

// survey rolls a survey with narrow marks of a ship with a mass, in water of some density; it is mostly right.
func (d *dice) survey(s api.Ship, id, mass int) api.Survey {
	x := api.Survey{ID: id, Tick: d.between(0, 99), Sag: d.between(0, 5) / 2, Hydro: d.between(1, 3)}
	density := d.between(970, 1030)
	volume := over(25*mass, density)
	if !inDomain(s.Mean, volume) {
		volume = over(mass, api.Score)
	}
	f, _ := valueByWords(s.Mean, volume).Float64()
	mean := int(f)
	trim := d.between(-6, 6)
	for i := range x.Marks {
		x.Marks[i] = d.around(mean+trim*(i/2-1), 2)
	}
	x.Shown = d.around(density, 3)
	return x
}

// forSurveys gives many small ships with a valid survey each.
func forSurveys(t *testing.T, what func(d *dice, s api.Ship, b api.Bulbs, x api.Survey)) {
	t.Helper()
	d := &dice{state: 11}
	right := 0
	for range 2000 {
		s, b := d.ship(), d.fine()
		if e := hull.Check(s); e != api.OK {
			t.Fatal("a wrong ship was rolled", e, s)
		}
		x := d.survey(s, d.between(1, 99), d.between(s.Light, fullOf(s)))
		if survey.Check(b, x) == api.OK {
			right++
			what(d, s, b, x)
		}
	}
	if right < 1000 {
		t.Error("too few valid surveys", right)
	}
}

// forLists gives many small ships with valid surveys, of one mass or of two.
func forLists(t *testing.T, what func(d *dice, s api.Ship, b api.Bulbs, l []api.Survey)) {
	t.Helper()
	d := &dice{state: 13}
	for range 1500 {
		s, b := d.ship(), d.fine()
		masses := [2]int{d.between(s.Light, fullOf(s)), d.between(s.Light, fullOf(s))}
		if d.between(0, 1) == 0 {
			masses[1] = masses[0]
		}
		var l []api.Survey
		for i := range d.between(1, 5) {
			x := d.survey(s, 3*i%7+1, masses[d.between(0, 4)/4])
			if survey.Check(b, x) == api.OK {
				l = append(l, x)
			}
		}
		if len(l) > 0 {
			what(d, s, b, l)
		}
	}
}

// good fails unless a call had no error.
func good(t *testing.T, e api.Errno, about ...any) {
	t.Helper()
	if e != api.OK {
		t.Fatal("error", e, about)
	}
}

func equal[T comparable](t *testing.T, got, want T, about ...any) {
	t.Helper()
	if got != want {
		t.Errorf("got %v, want %v: %v", got, want, about)
	}
}

func sameList[T comparable](t *testing.T, got, want []T, about ...any) {
	t.Helper()
	if !slices.Equal(got, want) {
		t.Errorf("got %v, want %v: %v", got, want, about)
	}
}

// enough fails unless each kind of a thing was met often.
func enough[K comparable](t *testing.T, met map[K]int, least int, kinds ...K) {
	t.Helper()
	for _, k := range kinds {
		if met[k] < least {
			t.Error("too few of the kind", k, met)
		}
	}
}
