package survey_test

import (
	"math/big"
	"slices"
	"testing"

	"kentledge/api"
	"kentledge/survey"
)

// P4.13: what is true is possible. Draughts, a density between the ends (no integer, mostly) and a mass are true if the table errs by at most its error.
func TestTrueMassesArePossible(t *testing.T) {
	fits := 0
	forSurveys(t, func(d *dice, s api.Ship, b api.Bulbs, x api.Survey) {
		water, e := survey.Density(b, x)
		good(t, e, b, x)
		var all [][6]int
		forDraughts(x, func(marks [6]int) { all = append(all, marks) })
		for range 6 {
			mean := over(sixteenOf(all[d.between(0, len(all)-1)]), 16)
			density := over(d.between(7*water.Lo, 7*water.Hi), 7)
			mass := d.between(s.Light, fullOf(s))
			volume := new(big.Rat).Quo(rat(25*mass), density)
			if !inDomain(s.Mean, volume) {
				continue
			}
			wrong := new(big.Rat).Abs(minus(mean, valueByWords(s.Mean, volume)))
			if wrong.Cmp(rat(s.Mean.Err)) > 0 {
				s.Mean.Err += int(new(big.Int).Div(wrong.Num(), wrong.Denom()).Int64()) + 1 // then it fits
			}
			is, e := survey.Possible(s, b, x, mass)
			good(t, e, s, b, x)
			equal(t, is, true, s, b, x, mass, density)
			fits++
		}
	})
	if fits < 2000 {
		t.Error("too few true masses", fits)
	}
}

// narrowerSurvey rolls a survey that says the same, or more: narrower spans, or less sag.
func (d *dice) narrowerSurvey(x api.Survey) api.Survey {
	for i, p := range x.Marks {
		if d.between(0, 2) == 0 {
			x.Marks[i] = d.span(p.Lo, p.Hi)
		}
	}
	if d.between(0, 1) == 0 {
		x.Shown = d.span(x.Shown.Lo, x.Shown.Hi)
	}
	x.Sag = d.between(0, x.Sag)
	return x
}

// P4.14: no mass becomes possible with narrower spans, a further glass, or less sag, nor any other draught or density.
func TestNarrowerReadings(t *testing.T) {
	met := map[bool]int{}
	forSurveys(t, func(d *dice, s api.Ship, b api.Bulbs, x api.Survey) {
		y, more := d.narrowerSurvey(x), b
		if d.between(0, 1) == 0 {
			dense := d.between(980, 1020)
			more.Glasses = append(slices.Clone(b.Glasses), api.Glass{ID: 99, Hydro: d.between(1, 3), Dense: dense, Shown: d.around(dense, 6)})
		}
		m, e := survey.Mass(s, b, x)
		n, f := survey.Mass(s, more, y)
		if f != api.OK {
			return
		}
		good(t, e, s, b, x)
		equal(t, m.Lo <= n.Lo && n.Hi <= m.Hi, true, s, b, x, more, y)
		p, e := survey.Density(b, x)
		good(t, e, b, x)
		q, e := survey.Density(more, y)
		good(t, e, more, y)
		equal(t, p.Lo <= q.Lo && q.Hi <= p.Hi, true, b, x, more, y)
		p, e = survey.Sixteen(b, x)
		good(t, e, b, x)
		q, e = survey.Sixteen(more, y)
		good(t, e, more, y)
		equal(t, p.Lo <= q.Lo && q.Hi <= p.Hi, true, x, y)
		met[m == n]++
	})
	enough(t, met, 100, true, false)
}

// P4.15: with a further survey no mass becomes possible; the order of the list does not matter but to Rests.
func TestFurtherSurveys(t *testing.T) {
	met := map[bool]int{}
	forLists(t, func(d *dice, s api.Ship, b api.Bulbs, l []api.Survey) {
		whole, e := survey.Together(s, b, l)
		for n := 1; n < len(l); n++ {
			m, f := survey.Together(s, b, l[:n])
			if e == api.OK {
				equal(t, f, api.OK, s, b, l, n)
				equal(t, m.Lo <= whole.Lo && whole.Hi <= m.Hi, true, s, b, l, n)
				met[m == whole]++
			}
		}
		back := slices.Clone(l)
		slices.Reverse(back)
		m, f := survey.Together(s, b, back)
		equal(t, m, whole, s, b, l)
		equal(t, f, e, s, b, l)
		one, _ := survey.Core(s, b, l)
		other, _ := survey.Core(s, b, back)
		sameList(t, other, one, s, b, l)
		one, _ = survey.Suspects(s, b, l)
		other, _ = survey.Suspects(s, b, back)
		sameList(t, other, one, s, b, l)
	})
	enough(t, met, 50, true, false)
}

// P4.8: the surveys of a core do not agree, and do without each of them; suspects stand in each core.
func TestCoresCannotBeSmaller(t *testing.T) {
	forLists(t, func(d *dice, s api.Ship, b api.Bulbs, l []api.Survey) {
		core, e := survey.Core(s, b, l)
		if e != api.OK {
			return
		}
		var left []api.Survey
		for _, x := range l {
			if slices.Contains(core, x.ID) {
				left = append(left, x)
			}
		}
		equal(t, len(left), len(core), s, b, l)
		equal(t, agree(s, b, left), false, s, b, l, core)
		for _, id := range core {
			equal(t, agree(s, b, except(left, id)), true, s, b, l, core, id)
		}
		suspects, e := survey.Suspects(s, b, l)
		good(t, e, s, b, l)
		for _, id := range suspects {
			equal(t, slices.Contains(core, id), true, s, b, l, core, id)
		}
	})
}
