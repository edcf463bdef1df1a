package hull_test

import (
	"math/big"
	"slices"
	"testing"

	"kentledge/api"
	"kentledge/hull"
)

const (
	minInt = -1 << 63
	maxInt = 1<<63 - 1
)

func span(lo, hi int) api.Span { return api.Span{Lo: lo, Hi: hi} }

func frac(num, den int) api.Frac { return api.Frac{Num: num, Den: den} }

// curveOf makes a curve of an error and of pairs of X and Y.
func curveOf(err int, xy ...int) api.Curve {
	c := api.Curve{Err: err}
	for i := 0; i < len(xy); i += 2 {
		c.Knots = append(c.Knots, api.Knot{X: xy[i], Y: xy[i+1]})
	}
	return c
}

// loadOf makes a load of what all together, and then the holds have.
func loadOf(all api.Span, holds ...api.Span) api.Load { return api.Load{Holds: holds, All: all} }

// example is the ship of the chapter's examples.
func example() api.Ship {
	return api.Ship{
		ID: 1, Light: 400, Height: 100,
		Holds: []api.Hold{{ID: 1, Room: 400, Lever: 50, Height: 60}, {ID: 2, Room: 400, Lever: -50, Height: 150}},
		Mean:  curveOf(0, 10, 100, 30, 500), Meta: curveOf(0, 10, 160, 30, 140),
		Turn: 10, Least: 30,
	}
}

// whole is a load of the example with all loadings up to a total.
func whole(most int) api.Load { return loadOf(span(0, most), span(0, 400), span(0, 400)) }

// bare is a ship without holds, on tables of one knot.
func bare() api.Ship {
	return api.Ship{ID: 1, Light: 400, Height: 100, Mean: curveOf(0, 10, 100), Meta: curveOf(0, 10, 160), Turn: 10, Least: 60}
}

// huge is a ship at the limits: as much as there can be of all that is multiplied.
func huge() api.Ship {
	s := api.Ship{
		ID: api.MaxID, Light: 1, Lever: -api.MaxLever, Height: api.MaxTall,
		Mean: curveOf(api.MaxErr, 0, api.MaxY-1, api.MaxX-1, api.MaxY), Meta: curveOf(api.MaxErr, 0, api.MaxY, api.MaxX-1, api.MaxY-1),
		Turn: api.MaxTurn, Least: api.MaxTall,
	}
	for i := range api.MaxHolds {
		s.Holds = append(s.Holds, api.Hold{ID: api.MaxID - i, Room: 8191, Lever: api.MaxLever - 2*i*api.MaxLever/7, Height: api.MaxTall - i})
	}
	return s
}

// broken is a ship that is wrong in every way that there is.
func broken() api.Ship { return api.Ship{Holds: make([]api.Hold, api.MaxHolds+1), Turn: -1} }

func roomsOf(s api.Ship) []api.Span {
	var l []api.Span
	for _, h := range s.Holds {
		l = append(l, span(0, h.Room))
	}
	return l
}

func clone(s api.Ship) api.Ship {
	s.Holds = slices.Clone(s.Holds)
	s.Mean.Knots = slices.Clone(s.Mean.Knots)
	s.Meta.Knots = slices.Clone(s.Meta.Knots)
	return s
}

func cloneLoad(l api.Load) api.Load {
	l.Holds = slices.Clone(l.Holds)
	return l
}

func sum(l []int) int {
	n := 0
	for _, m := range l {
		n += m
	}
	return n
}

func rat(n int) *big.Rat { return big.NewRat(int64(n), 1) }

func over(num, den int) *big.Rat { return big.NewRat(int64(num), int64(den)) }

func ratOf(f api.Frac) *big.Rat { return over(f.Num, f.Den) }

func plus(a, b *big.Rat) *big.Rat { return new(big.Rat).Add(a, b) }

func minus(a, b *big.Rat) *big.Rat { return new(big.Rat).Sub(a, b) }

func times(a, b *big.Rat) *big.Rat { return new(big.Rat).Mul(a, b) }

// fracOf brings an exact number into the form that is promised: lowest terms.
func fracOf(r *big.Rat) api.Frac {
	return frac(int(r.Num().Int64()), int(r.Denom().Int64()))
}

// floorOf returns the greatest integer that is at most a number.
func floorOf(r *big.Rat) int {
	return int(new(big.Int).Div(r.Num(), r.Denom()).Int64())
}

func ceilingOf(r *big.Rat) int { return -floorOf(new(big.Rat).Neg(r)) }

// valueByWords computes the value of a curve at a mass, piece by piece.
func valueByWords(c api.Curve, mass int) *big.Rat {
	x := over(mass, api.Score)
	for i, p := range c.Knots {
		if rat(p.X).Cmp(x) == 0 {
			return rat(p.Y)
		}
		if i > 0 && x.Cmp(rat(p.X)) < 0 {
			o := c.Knots[i-1]
			return plus(rat(o.Y), times(over(p.Y-o.Y, p.X-o.X), minus(x, rat(o.X))))
		}
	}
	panic("a mass outside of the domain")
}

func momentByWords(s api.Ship, x []int) int {
	n := s.Light * s.Lever
	for i, h := range s.Holds {
		n += x[i] * h.Lever
	}
	return n
}

func riseByWords(s api.Ship, x []int) int {
	n := s.Light * s.Height
	for i, h := range s.Holds {
		n += x[i] * h.Height
	}
	return n
}

func stiffByWords(s api.Ship, x []int) *big.Rat {
	d := s.Light + sum(x)
	return minus(minus(valueByWords(s.Meta, d), rat(s.Meta.Err)), over(riseByWords(s, x), d))
}

func steadyByWords(s api.Ship, x []int) bool { return stiffByWords(s, x).Cmp(rat(s.Least)) >= 0 }

func afloatByWords(s api.Ship, x []int) api.Draughts {
	mean := valueByWords(s.Mean, s.Light+sum(x))
	half := times(over(momentByWords(s, x), s.Turn), over(1, 2))
	around := func(d *big.Rat) api.Span {
		return span(floorOf(minus(d, rat(s.Mean.Err))), ceilingOf(plus(d, rat(s.Mean.Err))))
	}
	return api.Draughts{Fore: around(plus(mean, half)), Aft: around(minus(mean, half))}
}

func deepByWords(s api.Ship, x []int) int {
	d := afloatByWords(s, x)
	return max(d.Fore.Hi, d.Aft.Hi)
}

func worthByWords(form, x []int) int {
	n := 0
	for i, w := range form {
		n += w * x[i]
	}
	return n
}

// boundByWords computes what a price bounds a form by, over totals.
func boundByWords(l api.Load, all api.Span, form []int, price int) int {
	n := price * all.Hi
	if price < 0 {
		n = price * all.Lo
	}
	for i, p := range l.Holds {
		n += max((form[i]-price)*p.Lo, (form[i]-price)*p.Hi)
	}
	return n
}

// inSpans returns all lists with a number of each span.
func inSpans(spans []api.Span) [][]int {
	l := [][]int{{}}
	for _, p := range spans {
		var longer [][]int
		for _, x := range l {
			for n := p.Lo; n <= p.Hi; n++ {
				longer = append(longer, append(slices.Clone(x), n))
			}
		}
		l = longer
	}
	return l
}

// loadingsOf returns all loadings of a load.
func loadingsOf(l api.Load) [][]int {
	return slices.DeleteFunc(inSpans(l.Holds), func(x []int) bool { return sum(x) < l.All.Lo || l.All.Hi < sum(x) })
}

// dice rolls numbers, the same ones in each run.
type dice struct{ state uint64 }

func (d *dice) between(lo, hi int) int {
	d.state = d.state*6364136223846793005 + 1442695040888963407
	return lo + int((d.state>>33)%uint64(hi-lo+1))
}

func (d *dice) span(lo, hi int) api.Span {
	a, b := d.between(lo, hi), d.between(lo, hi)
	return span(min(a, b), max(a, b))
}

// curve rolls a curve that reaches from at most one mass to at least another one, often just to them.
func (d *dice) curve(from, to int, y func(before int) int) api.Curve {
	c := api.Curve{Err: d.between(0, 2)}
	k := api.Knot{X: max(0, from/api.Score-d.between(0, 1)), Y: y(0)}
	c.Knots = append(c.Knots, k)
	for k.X*api.Score < to {
		k = api.Knot{X: k.X + d.between(1, 3), Y: y(k.Y)}
		c.Knots = append(c.Knots, k)
	}
	return c
}

// ship rolls a small ship: equal heights and levers, holds without room, and loadings in which she is just steady are likely.
func (d *dice) ship(holds, room int) api.Ship {
	s := api.Ship{ID: d.between(1, 9), Light: d.between(1, 90), Lever: d.between(-9, 9), Height: d.between(0, 40), Turn: d.between(1, 30)}
	for i := range d.between(0, holds) {
		s.Holds = append(s.Holds, api.Hold{ID: 7*i%5 + 1, Room: d.between(0, room), Lever: d.between(-4, 4) * 9, Height: d.between(0, 5) * 14})
	}
	full := s.Light
	var x []int
	for _, h := range s.Holds {
		full += h.Room
		x = append(x, d.between(0, h.Room))
	}
	s.Mean = d.curve(s.Light, full, func(before int) int { return before + d.between(1, 30) })
	s.Meta = d.curve(s.Light, full, func(int) int { return d.between(30, 120) })
	s.Least = max(0, floorOf(stiffByWords(s, x)))
	return s
}

// load rolls a load with loadings: the spans may be of one number, and All may reach beyond them.
func (d *dice) load(s api.Ship) api.Load {
	var l api.Load
	n := 0
	for _, h := range s.Holds {
		p := d.span(0, h.Room)
		l.Holds = append(l.Holds, p)
		n += d.between(p.Lo, p.Hi)
	}
	l.All = span(max(0, n-d.between(0, 6)), n+d.between(0, 6))
	return l
}

// form rolls a form: equal weights, and 0, are likely.
func (d *dice) form(s api.Ship) []int {
	var l []int
	for range s.Holds {
		l = append(l, d.between(-3, 3))
	}
	return l
}

// forShips gives many small ships.
func forShips(t *testing.T, what func(d *dice, s api.Ship)) {
	t.Helper()
	d := &dice{state: 7}
	for range 1200 {
		s := d.ship(3, 7)
		if e := hull.Check(s); e != api.OK {
			t.Fatal("a wrong ship was rolled", e, s)
		}
		what(d, s)
	}
}

// forLoads gives many small ships, each with a load.
func forLoads(t *testing.T, what func(d *dice, s api.Ship, l api.Load)) {
	t.Helper()
	forShips(t, func(d *dice, s api.Ship) { what(d, s, d.load(s)) })
}

// large rolls a ship with up to as many holds as can be, and a load with thousands of totals.
func (d *dice) large() (api.Ship, api.Load) {
	s := api.Ship{ID: 1, Light: d.between(1, 9000), Lever: d.between(-300, 300), Height: d.between(0, 600), Turn: d.between(1, 9000)}
	l := api.Load{}
	for i := range d.between(4, api.MaxHolds) {
		h := api.Hold{ID: i + 1, Room: d.between(0, 6000), Lever: d.between(-9000, 9000), Height: d.between(0, 1500)}
		s.Holds = append(s.Holds, h)
		l.Holds = append(l.Holds, d.span(0, h.Room))
	}
	lo, hi, full := 0, 0, s.Light
	for i, p := range l.Holds {
		lo, hi, full = lo+p.Lo, hi+p.Hi, full+s.Holds[i].Room
	}
	at := d.between(lo, hi)
	l.All = span(max(0, at-d.between(0, 1999)), at+d.between(0, 1999))
	s.Mean = d.curve(s.Light, full, func(before int) int { return before + d.between(1, 9) })
	for len(s.Mean.Knots) > api.MaxKnots { // too many: the first and the last one will do
		s.Mean.Knots = []api.Knot{s.Mean.Knots[0], s.Mean.Knots[len(s.Mean.Knots)-1]}
	}
	s.Meta = curveOf(d.between(0, 9), 0, d.between(300, 1500), d.between(1, full/api.Score+1), d.between(300, 1500), full/api.Score+2, d.between(300, 1500))
	return s, l
}

// forLarge gives some large ships with loads, steady ones and others.
func forLarge(t *testing.T, what func(d *dice, s api.Ship, l api.Load)) {
	t.Helper()
	d := &dice{state: 3}
	for range 60 {
		s, l := d.large()
		if e := hull.CheckLoad(s, l); e != api.OK {
			t.Fatal("a wrong load was rolled", e, s, l)
		}
		what(d, s, l)
	}
}

// loading rolls a loading of a load.
func (d *dice) loading(l api.Load) []int {
	lo, hi := 0, 0
	for _, p := range l.Holds {
		lo, hi = lo+p.Lo, hi+p.Hi
	}
	left := d.between(max(lo, l.All.Lo), min(hi, l.All.Hi))
	var x []int
	for _, p := range l.Holds {
		lo, hi = lo-p.Lo, hi-p.Hi
		m := d.between(max(p.Lo, left-hi), min(p.Hi, left-lo))
		x = append(x, m)
		left -= m
	}
	return x
}

// good fails unless a call had no error.
func good(t *testing.T, e api.Errno, about ...any) {
	t.Helper()
	if e != api.OK {
		t.Fatal("error", e, about)
	}
}

func equal[T comparable](t *testing.T, got, want T, about ...any) {
	t.Helper()
	if got != want {
		t.Errorf("got %v, want %v: %v", got, want, about)
	}
}

func sameList[T comparable](t *testing.T, got, want []T, about ...any) {
	t.Helper()
	if !slices.Equal(got, want) {
		t.Errorf("got %v, want %v: %v", got, want, about)
	}
}

func sameLoad(t *testing.T, got, want api.Load, about ...any) {
	t.Helper()
	if got.All != want.All || !slices.Equal(got.Holds, want.Holds) {
		t.Errorf("got %v, want %v: %v", got, want, about)
	}
}

func contains(l [][]int, x []int) bool {
	return slices.ContainsFunc(l, func(y []int) bool { return slices.Equal(x, y) })
}
