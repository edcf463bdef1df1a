package survey_test

import (
	"math/big"
	"slices"
	"testing"

	"kentledge/api"
	"kentledge/hull"
	"kentledge/survey"
)

// P4.5: the example.
func TestMassOfTheExample(t *testing.T) {
	v, e := survey.Volumes(brig(), bulbs(), seven())
	equal(t, v, api.Range{Lo: frac(35, 2), Hi: frac(88, 5)})
	equal(t, e, api.OK)
	m, e := survey.Mass(brig(), bulbs(), seven())
	equal(t, m, span(700, 705))
	equal(t, e, api.OK)
	for _, c := range []struct {
		mass int
		want bool
	}{
		{700, true}, {705, true}, {699, false}, {706, false}, {703, true}, {0, false}, {-700, false}, {minInt, false}, {maxInt, false},
	} {
		is, e := survey.Possible(brig(), bulbs(), seven(), c.mass)
		equal(t, is, c.want, c)
		equal(t, e, api.OK, c)
	}
}

// P4.5: surveys at the ends of what a ship can weigh, and beyond.
func TestMassesAtTheEnds(t *testing.T) {
	long := brig() // the same ship, with a table that goes on
	long.Mean = curveOf(0, 5, 0, 35, 600)
	for _, c := range []struct {
		name    string
		s       api.Ship
		x       api.Survey
		volumes api.Range
		mass    api.Span
	}{
		{"light", brig(), level(1, at(100)), api.Range{Lo: frac(10, 1), Hi: frac(10, 1)}, at(400)},
		{"too light", brig(), level(1, at(99)), api.Range{}, api.Span{}},
		{"too light in part", brig(), level(1, span(50, 101)), api.Range{Lo: frac(10, 1), Hi: frac(201, 20)}, span(400, 402)},
		{"full", brig(), level(1, at(500)), api.Range{Lo: frac(30, 1), Hi: frac(30, 1)}, at(1200)},
		{"too full", brig(), level(1, at(501)), api.Range{}, api.Span{}},
		{"too full in part", brig(), level(1, span(499, 501)), api.Range{Lo: frac(599, 20), Hi: frac(30, 1)}, span(1198, 1200)},
		{"all", brig(), level(1, span(100, 499)), api.Range{Lo: frac(10, 1), Hi: frac(599, 20)}, span(400, 1198)},
		{"light by a longer table", long, level(1, at(100)), api.Range{Lo: frac(10, 1), Hi: frac(10, 1)}, at(400)},
		{"too light by a longer table", long, level(1, at(99)), api.Range{Lo: frac(199, 20), Hi: frac(199, 20)}, api.Span{}},
		{"full by a longer table", long, level(1, span(500, 520)), api.Range{Lo: frac(30, 1), Hi: frac(31, 1)}, at(1200)},
		{"too full by a longer table", long, level(1, span(501, 520)), api.Range{Lo: frac(601, 20), Hi: frac(31, 1)}, api.Span{}},
		{"beyond a longer table", long, level(1, at(601)), api.Range{}, api.Span{}},
	} {
		v, e := survey.Volumes(c.s, exact(), c.x)
		equal(t, v, c.volumes, c.name)
		equal(t, e == api.OK, c.volumes != api.Range{}, c.name, e)
		m, e := survey.Mass(c.s, exact(), c.x)
		equal(t, m, c.mass, c.name)
		want := api.OK
		if c.mass == (api.Span{}) {
			want = api.ErrClash
		}
		equal(t, e, want, c.name)
		for n := 390; n <= 1210; n++ {
			is, e := survey.Possible(c.s, exact(), c.x, n)
			equal(t, is, want == api.OK && c.mass.Lo <= n && n <= c.mass.Hi, c.name, n)
			equal(t, e, api.OK, c.name, n)
		}
		mark, use, e := survey.Best(c.s, exact(), c.x)
		equal(t, e, want, c.name)
		equal(t, use > 0, want == api.OK, c.name)
		equal(t, want == api.OK || mark == 0, true, c.name)
	}
}

// P4.5: the error of the table makes all wider, also where one draught alone fits.
func TestMassWithAnErrorOfTheTable(t *testing.T) {
	s := brig()
	for _, c := range []struct {
		err  int
		x    api.Survey
		want api.Span
	}{
		{0, level(1, at(250)), at(700)}, {1, level(1, at(250)), span(698, 702)}, {3, level(1, span(250, 251)), span(694, 708)},
		{10, level(1, at(90)), at(400)}, {9, level(1, at(90)), api.Span{}}, {10, level(1, at(510)), at(1200)}, {9, level(1, at(510)), api.Span{}},
		{api.MaxErr, level(1, at(250)), span(400, 1200)},
	} {
		s.Mean.Err = c.err
		m, e := survey.Mass(s, exact(), c.x)
		equal(t, m, c.want, c)
		equal(t, e == api.OK, c.want != api.Span{}, c, e)
	}
}

// P4.5: the value at the one volume of a ship lies between two means, and fits neither of them.
func between() (api.Ship, api.Survey) {
	s := bare(curveOf(0, 9, 100, 12, 101)) // 100 1/3 at 10
	x := level(1, at(100))
	x.Marks[0], x.Marks[1], x.Marks[2] = span(100, 102), span(100, 102), span(100, 101) // the means 100 and 100 1/2
	return s, x
}

// P4.5
func TestVolumesBetweenDraughts(t *testing.T) {
	s, x := between()
	sameList(t, sixteensByWords(x), []int{1600, 1608})
	v, e := survey.Volumes(s, exact(), x)
	equal(t, v, api.Range{Lo: frac(9, 1), Hi: frac(21, 2)})
	equal(t, e, api.OK)
	m, e := survey.Mass(s, exact(), x)
	equal(t, m, at(400))
	equal(t, e, api.OK)
	is, e := survey.Possible(s, exact(), x, 400)
	equal(t, is, true)
	equal(t, e, api.OK)
}

// P4.5: a table of one knot.
func TestShipsOfOneMass(t *testing.T) {
	for _, c := range []struct {
		err  int
		p    api.Span
		want api.Errno
	}{
		{0, at(100), api.OK}, {0, span(90, 110), api.OK}, {0, at(99), api.ErrClash}, {0, at(101), api.ErrClash},
		{2, at(98), api.OK}, {2, at(102), api.OK}, {2, at(97), api.ErrClash}, {2, at(103), api.ErrClash},
	} {
		s := bare(curveOf(c.err, 10, 100))
		v, e := survey.Volumes(s, exact(), level(1, c.p))
		equal(t, e, c.want, c)
		m, e := survey.Mass(s, exact(), level(1, c.p))
		equal(t, e, c.want, c)
		if c.want == api.OK {
			equal(t, v, api.Range{Lo: frac(10, 1), Hi: frac(10, 1)}, c)
			equal(t, m, at(400), c)
		} else {
			equal(t, v, api.Range{}, c)
			equal(t, m, api.Span{}, c)
		}
	}
	s := bare(curveOf(0, 10, 100))
	x := level(1, at(100))
	for _, c := range []struct {
		shown api.Span
		want  api.Errno
	}{
		{span(900, 1000), api.OK}, {span(1000, 1100), api.OK}, {at(999), api.ErrClash}, {at(1001), api.ErrClash},
	} {
		x.Shown = c.shown
		_, e := survey.Mass(s, exact(), x)
		equal(t, e, c.want, c)
		v, e := survey.Volumes(s, exact(), x)
		equal(t, v, api.Range{Lo: frac(10, 1), Hi: frac(10, 1)}, "the volume fits, whatever the water is", c)
		equal(t, e, api.OK, c)
	}
}

// P4.5: the density of the water, at its ends and between two masses.
func TestMassesByDensity(t *testing.T) {
	for _, c := range []struct{ shown, want api.Span }{
		{at(1000), at(700)}, {at(900), at(630)}, {at(1100), at(770)}, {span(999, 1001), at(700)}, {span(998, 1002), span(699, 701)},
		{span(0, 2000), span(630, 770)}, {span(1001, 1009), span(701, 706)}, {at(1010), at(707)},
	} {
		x := level(1, at(250))
		x.Shown = c.shown
		m, e := survey.Mass(brig(), exact(), x)
		equal(t, m, c.want, c)
		equal(t, e, api.OK, c)
	}
	x := level(1, at(250))
	x.Shown = at(1001) // 700.7
	m, e := survey.Mass(brig(), exact(), x)
	equal(t, m, api.Span{}, "no integer")
	equal(t, e, api.ErrClash)
	v, e := survey.Volumes(brig(), exact(), x)
	equal(t, v, api.Range{Lo: frac(35, 2), Hi: frac(35, 2)})
	equal(t, e, api.OK)
}

// weighs fails unless the volumes and masses by a valid survey are those by the words. It returns the masses.
func weighs(t *testing.T, s api.Ship, b api.Bulbs, x api.Survey, sixteens []int) []int {
	t.Helper()
	lo, hi := volumesByWords(s.Mean, sixteens)
	v, e := survey.Volumes(s, b, x)
	if lo == nil {
		equal(t, v, api.Range{}, s, b, x)
		equal(t, e, api.ErrClash, s, b, x)
	} else {
		equal(t, v, api.Range{Lo: fracOf(lo), Hi: fracOf(hi)}, s, b, x)
		equal(t, e, api.OK, s, b, x)
	}
	density, _ := densityByWords(b, x)
	all := massesByWords(s, density, lo, hi)
	m, e := survey.Mass(s, b, x)
	equal(t, m, ends(all), s, b, x)
	if len(all) == 0 {
		equal(t, e, api.ErrClash, s, b, x)
	} else {
		equal(t, e, api.OK, s, b, x)
	}
	return all
}

// P4.5, P4.13: all draughts and all masses are tried; a mass is possible exactly if it lies in Mass.
func TestMassesByTheWords(t *testing.T) {
	met := map[string]int{}
	forSurveys(t, func(d *dice, s api.Ship, b api.Bulbs, x api.Survey) {
		all := weighs(t, s, b, x, sixteensByWords(x))
		for m := s.Light - 3; m <= fullOf(s)+3; m++ {
			is, e := survey.Possible(s, b, x, m)
			equal(t, e, api.OK, s, b, x, m)
			equal(t, is, slices.Contains(all, m), s, b, x, m)
		}
		_, e := survey.Volumes(s, b, x)
		switch {
		case e != api.OK:
			met["no volume"]++
		case len(all) == 0:
			met["no mass"]++
		case len(all) == fullOf(s)-s.Light+1:
			met["all masses"]++
		default:
			met["some masses"]++
		}
	})
	enough(t, met, 40, "no volume", "no mass", "all masses", "some masses")
}

// P4.5: between the ends of Volumes the ship can have each volume, and beyond them none.
func TestVolumesInside(t *testing.T) {
	forSurveys(t, func(d *dice, s api.Ship, b api.Bulbs, x api.Survey) {
		v, e := survey.Volumes(s, b, x)
		if e != api.OK {
			return
		}
		all := sixteensByWords(x)
		lo, hi := ratOf(v.Lo), ratOf(v.Hi)
		for i := range 9 {
			at := plus(lo, times(minus(hi, lo), over(i, 8)))
			equal(t, canHave(s.Mean, all, at), true, s, x, at)
		}
		little := new(big.Rat).SetFrac64(1, 1<<40)
		for _, at := range [2]*big.Rat{minus(lo, little), plus(hi, little)} {
			equal(t, inDomain(s.Mean, at) && canHave(s.Mean, all, at), false, s, x, at)
		}
	})
}

// vast is a ship at the limits of the tables, with all masses that there can be.
func vast(err int) api.Ship {
	s := api.Ship{
		ID: api.MaxID, Light: 1, Lever: -api.MaxLever, Height: api.MaxTall,
		Mean: curveOf(err, 0, 0, 1, 65000, api.MaxX-1, api.MaxY-1, api.MaxX, api.MaxY), Meta: curveOf(0, 0, api.MaxY, api.MaxX, 0),
		Turn: api.MaxTurn, Least: api.MaxTall,
	}
	for i := range api.MaxHolds {
		s.Holds = append(s.Holds, api.Hold{ID: api.MaxID - i, Room: 8191, Lever: api.MaxLever, Height: api.MaxTall})
	}
	return s
}

// P4.5: marks as wide and as deep as can be, and steep and flat pieces of a table.
func TestMassesAtTheLimits(t *testing.T) {
	d := &dice{state: 37}
	for i := range 60 {
		s := vast([]int{0, 1, api.MaxErr}[i%3])
		if e := hull.Check(s); e != api.OK {
			t.Fatal("a wrong ship", e)
		}
		x := api.Survey{ID: api.MaxID, Tick: api.MaxTick, Sag: d.between(0, api.MaxSag), Hydro: 1, Shown: d.span(900, 1100)}
		base := d.between(0, 9) * 6500
		for k := range x.Marks {
			lo := base + d.between(0, 200)
			x.Marks[k] = span(lo, lo+d.between(0, 300))
		}
		if survey.Check(exact(), x) == api.OK {
			weighs(t, s, exact(), x, sixteensBySums(x))
		}
	}
	deep := level(1, at(api.MaxY))
	weighs(t, vast(0), exact(), deep, []int{16 * api.MaxY})
	deep.Shown = span(900, 1100)
	weighs(t, vast(0), exact(), deep, []int{16 * api.MaxY})
	one := level(1, at(1))
	one.Marks[0] = at(0)
	one.Sag = 1
	weighs(t, vast(0), exact(), one, []int{15}) // the greatest denominator: 16 * 65000, by a number that has no divisor in common
}

// bestByWords returns what Best does, asking for Mass with each number of each mark.
func bestByWords(s api.Ship, b api.Bulbs, x api.Survey) (int, int) {
	best, least := 0, maxInt
	for i, p := range x.Marks {
		use := 0
		for n := p.Lo; n <= p.Hi; n++ {
			y := x
			y.Marks[i] = at(n)
			if m, e := survey.Mass(s, b, y); e == api.OK {
				use = max(use, m.Hi-m.Lo+1)
			}
		}
		if use < least {
			best, least = i, use
		}
	}
	return best, least
}

// P4.6
func TestBestByTheWords(t *testing.T) {
	forSurveys(t, func(d *dice, s api.Ship, b api.Bulbs, x api.Survey) {
		mark, use, e := survey.Best(s, b, x)
		if _, f := survey.Mass(s, b, x); f != api.OK {
			equal(t, e, f, s, b, x)
			equal(t, mark, 0, s, b, x)
			equal(t, use, 0, s, b, x)
			return
		}
		good(t, e, s, b, x)
		wantMark, wantUse := bestByWords(s, b, x)
		equal(t, mark, wantMark, s, b, x)
		equal(t, use, wantUse, s, b, x)
	})
	d := &dice{state: 41}
	met := map[int]int{}
	for range 400 {
		x := level(1, at(250))
		x.Sag = d.between(0, 9)
		for i := range x.Marks {
			most := 20
			if i == 2 || i == 3 { // narrower, since they count more
				most = 3
			}
			x.Marks[i] = span(250, 250+d.between(0, 3)*d.between(0, most)/3)
		}
		if survey.Check(exact(), x) != api.OK {
			continue
		}
		wantMark, wantUse := bestByWords(brig(), exact(), x)
		mark, use, e := survey.Best(brig(), exact(), x)
		equal(t, mark, wantMark, x)
		equal(t, use, wantUse, x)
		equal(t, e, api.OK, x)
		met[mark]++
	}
	enough(t, met, 10, 0, 1, 2, 3, 4, 5)
}

// P4.6: which marks matter.
func TestBest(t *testing.T) {
	for _, c := range []struct {
		name  string
		marks [6]api.Span
		sag   int
		mark  int
		use   int
	}{
		{"all alike, bent", level(1, span(250, 252)).Marks, api.MaxSag, 2, 3},
		{"nothing to be known", level(1, at(250)).Marks, 0, 0, 1},
		{"the widest one aft", [6]api.Span{at(250), at(250), at(250), at(250), span(250, 258), span(250, 274)}, 10, 5, 2},
		{"the widest one fore", [6]api.Span{span(250, 258), span(250, 274), at(250), at(250), at(250), at(250)}, 10, 1, 2},
		{"the first of two", [6]api.Span{at(250), span(250, 274), at(250), at(250), at(250), span(250, 274)}, 20, 1, 4},
		{"amidships", [6]api.Span{span(250, 253), at(250), at(250), span(250, 253), at(250), at(250)}, 10, 3, 1},
	} {
		x := level(1, at(250))
		x.Marks, x.Sag = c.marks, c.sag
		wantMark, wantUse := bestByWords(brig(), exact(), x)
		mark, use, e := survey.Best(brig(), exact(), x)
		equal(t, mark, wantMark, c.name)
		equal(t, use, wantUse, c.name)
		equal(t, mark, c.mark, c.name)
		equal(t, use, c.use, c.name)
		equal(t, e, api.OK, c.name)
	}
}

// P4.6: a mark with no number with which there is a mass has the use 0.
func TestBestMarkWithoutMasses(t *testing.T) {
	s, x := between()
	for _, c := range []struct {
		mark, n int
		want    api.Errno
	}{
		{0, 100, api.OK}, {0, 101, api.ErrClash}, {0, 102, api.ErrClash}, {2, 100, api.ErrClash}, {2, 101, api.ErrClash}, {3, 100, api.OK},
	} {
		y := x
		y.Marks[c.mark] = at(c.n)
		_, e := survey.Mass(s, exact(), y)
		equal(t, e, c.want, c)
	}
	mark, use, e := survey.Best(s, exact(), x)
	equal(t, mark, 2)
	equal(t, use, 0)
	equal(t, e, api.OK)
}

// P4.6: all numbers of the widest spans.
func TestBestOfWideMarks(t *testing.T) {
	x := level(1, span(100, 499))
	x.Sag = api.MaxSag
	wantMark, wantUse := bestByWords(brig(), exact(), x)
	mark, use, e := survey.Best(brig(), exact(), x)
	equal(t, mark, wantMark)
	equal(t, use, wantUse)
	equal(t, e, api.OK)
}
