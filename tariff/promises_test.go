package tariff_test

import (
	"slices"
	"strings"
	"testing"

	"kentledge/api"
	"kentledge/tariff"
)

// P7.9: Parse of Print is the tariff, and Print of what Parse takes, read again, is the same tariff.
func TestParseOfPrint(t *testing.T) {
	forTariffs(1000, api.MaxRules, func(d *dice, x api.Tariff) {
		s := printed(t, x)
		sameTariff(t, parsed(t, s), x, s)
		equal(t, printed(t, parsed(t, s)), s)
	})
	largest := rules(full().Rules[:17]...)
	equal(t, len(printed(t, largest)) > api.MaxTariff*4/5, true)
	sameTariff(t, parsed(t, printed(t, largest)), largest)
}

// P7.9: comments and separators do not matter, nor do parts that say what is so without them.
func TestSeparatorsDoNotMatter(t *testing.T) {
	forTariffs(1000, 4, func(d *dice, x api.Tariff) {
		tokens := tokensOfText(printed(t, x))
		sameTariff(t, parsed(t, d.spaced(tokens)), x, tokens)
		said := strings.NewReplacer(" pay 3;", " pay 3 above 0 upto 65536;", " pay 3,", " pay 3 upto 65536,").Replace(printed(t, x))
		sameTariff(t, parsed(t, said), x, said)
	})
}

// P7.10: the effects of Trace follow each other, and Pence is what the last one leaves.
func TestEffectsFollow(t *testing.T) {
	met := map[bool]int{}
	forTariffs(2000, 12, func(d *dice, x api.Tariff) {
		for _, due := range duesByWords(x) {
			grade, mass := d.grade(), d.between(0, api.MaxMass)
			l, e := tariff.Trace(x, due, grade, mass)
			good(t, e, x, due, grade, mass)
			left, last := 0, -1
			for _, y := range l {
				equal(t, y.Before, left, x, due, grade, mass)
				equal(t, y.Rule > last, true, x, due, grade, mass)
				left, last = y.After, y.Rule
			}
			equal(t, penceOf(t, x, due, grade, mass), left, x, due, grade, mass)
			met[len(l) > 0]++
		}
	})
	enough(t, met, 100, true, false)
}

// P7.10: a bill is the sum of those of its lots, in any order.
func TestBillsAreSums(t *testing.T) {
	forTariffs(1000, 8, func(d *dice, x api.Tariff) {
		cargo := d.cargo()
		bill := billOf(t, x, cargo)
		sameList(t, billOf(t, x, shuffled(d, cargo)), bill, x, cargo)
		sum := billOf(t, x, nil)
		for _, c := range sum {
			equal(t, c.Pence, 0, x)
		}
		for _, y := range cargo {
			for i, c := range billOf(t, x, []api.Lot{y}) {
				equal(t, c.Pence, penceOf(t, x, c.Due, y.Grade, y.Mass), x, y)
				sum[i].Pence += c.Pence
			}
		}
		sameList(t, bill, sum, x, cargo)
	})
}

// P7.11: each mass has the pence of its stage, and neighbours have others; no pence lie beyond the ends; more mass is not cheaper where Falls finds nothing; pence reach what From is asked for there, and not before.
func TestMassesHaveTheirStages(t *testing.T) {
	forTariffs(600, 10, func(d *dice, x api.Tariff) {
		for _, due := range duesByWords(x) {
			grade, s := d.grade(), d.masses()
			var pence []int
			l := stagesOf(t, x, due, grade, s)
			for i, y := range l {
				equal(t, y.Masses.Lo, s.Lo+len(pence), x, due, grade, s)
				equal(t, i == 0 || y.Pence != l[i-1].Pence, true, x, due, grade, s)
				for m := y.Masses.Lo; m <= y.Masses.Hi; m++ {
					equal(t, penceOf(t, x, due, grade, m), y.Pence, x, due, grade, m)
					pence = append(pence, y.Pence)
				}
			}
			equal(t, len(pence), s.Hi-s.Lo+1, x, due, grade, s)
			low, high, e := tariff.Ends(x, due, grade, s)
			good(t, e)
			equal(t, low.Pence, slices.Min(pence), x, due, grade, s)
			equal(t, high.Pence, slices.Max(pence), x, due, grade, s)
			equal(t, slices.Contains(l, low) && slices.Contains(l, high), true, x, due, grade, s)
			_, falls, e := tariff.Falls(x, due, grade, s)
			good(t, e)
			equal(t, falls, !slices.IsSorted(pence), x, due, grade, s)
			wanted := d.between(low.Pence, high.Pence)
			from, e := tariff.From(x, due, grade, s, wanted)
			good(t, e, x, due, grade, s, wanted)
			equal(t, pence[from-s.Lo] >= wanted, true, x, due, grade, s, wanted)
			equal(t, from == s.Lo || slices.Max(pence[:from-s.Lo]) < wanted, true, x, due, grade, s, wanted)
		}
	})
}

// anyPence is what is to be paid by a tariff; 0 for a due that it does not have.
func anyPence(t *testing.T, x api.Tariff, due, grade string, mass int) int {
	t.Helper()
	n, e := tariff.Pence(x, due, grade, mass)
	equal(t, e == api.OK || e == api.ErrNone, true, x, due, grade, mass)
	return n
}

// P7.12: if Same finds no difference, all dues, grades and masses have the same pence; where it finds one, they differ.
func TestSameIsSame(t *testing.T) {
	met := map[bool]int{}
	forTariffs(1000, 4, func(d *dice, x api.Tariff) {
		y, s := x, d.masses()
		if len(x.Rules) > 0 {
			i := d.between(0, len(x.Rules)-1)
			y = rules(slices.Insert(less(x, i).Rules, d.between(0, len(x.Rules)-1), x.Rules[i])...)
		}
		p := placeOf(t, x, y, s)
		met[p.is]++
		if !p.is {
			equal(t, s.Lo <= p.mass && p.mass <= s.Hi, true, p)
			equal(t, anyPence(t, x, p.due, p.grade, p.mass) != anyPence(t, y, p.due, p.grade, p.mass), true, x, y, s, p)
			return
		}
		for _, due := range []string{"wharf", "bond", "b", "none"} {
			for _, grade := range append(someGrades(), "", "slag") {
				for m := s.Lo; m <= s.Hi; m += 3 {
					equal(t, anyPence(t, x, due, grade, m), anyPence(t, y, due, grade, m), x, y, due, grade, m)
				}
			}
		}
	})
	enough(t, met, 50, true, false)
}

// P7.12: without a rule of Spare Same finds no difference, without another one it does; without a rule of Rests the bill is another one, without another one it is not, but for dues that are not there any more.
func TestSpareAndRests(t *testing.T) {
	met := map[bool]int{}
	forTariffs(500, 8, func(d *dice, x api.Tariff) {
		s, cargo := d.masses(), d.cargo()
		spare, rests := spareOf(t, x, s), restsOf(t, x, cargo)
		for i := range x.Rules {
			equal(t, placeOf(t, x, less(x, i), s).is, slices.Contains(spare, i), x, i, s)
			met[slices.Contains(spare, i)]++
			bill := slices.DeleteFunc(billOf(t, x, cargo), func(c api.Charge) bool { return c.Pence == 0 })
			other := slices.DeleteFunc(billOf(t, less(x, i), cargo), func(c api.Charge) bool { return c.Pence == 0 })
			equal(t, !slices.Equal(bill, other), slices.Contains(rests, i), x, i, cargo)
		}
	})
	enough(t, met, 300, true, false)
}

// P7.13: with a further edition only the days from its From up to the next edition change.
func TestFurtherEdition(t *testing.T) {
	d := &dice{state: 13}
	met := map[api.Errno]int{}
	for range 500 {
		l := d.editions()
		x := edition(d.between(1, 20), d.between(0, 40), d.tariff(4))
		more, e := tariff.Add(l, x)
		met[e]++
		if e != api.OK {
			equal(t, e, api.ErrTwice, l, x)
			continue
		}
		end := api.MaxDay + 1
		for _, y := range slices.Backward(l) {
			if y.From > x.From {
				end = y.From
			}
		}
		for day := range 60 {
			before, e := tariff.InForce(l, day)
			behind, f := tariff.InForce(more, day)
			if x.From <= day && day < end {
				before, e = x, api.OK
			}
			equal(t, f, e, l, x, day)
			sameEditions(t, []api.Edition{behind}, []api.Edition{before}, l, x, day)
		}
	}
	enough(t, met, 50, api.OK, api.ErrTwice)
}

// P7.13: Due on a day depends on the edition in force alone; Cheapest is the least one of the sums of Due, on the first day on which it is.
func TestCheapestOfDues(t *testing.T) {
	d := &dice{state: 14}
	for range 300 {
		l, cargo := d.editions(), d.cargo()
		days := span(d.between(0, 20), d.between(20, 50))
		best, least, found := 0, 0, false
		for day := days.Lo; day <= days.Hi; day++ {
			bill, e := tariff.Due(l, day, cargo)
			x, f := tariff.InForce(l, day)
			equal(t, e, f, l, day)
			if e != api.OK {
				continue
			}
			alone, e := tariff.Due([]api.Edition{edition(7, 0, x.Tariff)}, 700, cargo)
			good(t, e)
			sameList(t, bill, alone, l, day)
			sameList(t, bill, billOf(t, x.Tariff, cargo), l, day)
			sum := 0
			for _, c := range bill {
				sum += c.Pence
			}
			if !found || sum < least {
				best, least, found = day, sum, true
			}
		}
		day, sum, e := tariff.Cheapest(l, days, cargo)
		equal(t, e == api.OK, found, l, days)
		equal(t, day, best, l, days)
		equal(t, sum, least, l, days)
	}
}

// P7.14: what the last rule that is for a due and a grade does holds for the pence.
func TestLastRules(t *testing.T) {
	met := map[int]int{}
	forTariffs(2000, 8, func(d *dice, x api.Tariff) {
		for _, due := range duesByWords(x) {
			grade, mass := d.grade(), d.between(0, 500)
			n := penceOf(t, x, due, grade, mass)
			equal(t, n >= 0, true, x, due, grade, mass)
			l, e := tariff.Trace(x, due, grade, mass)
			good(t, e)
			if len(l) == 0 {
				equal(t, n, 0, x, due, grade, mass)
				continue
			}
			last := x.Rules[l[len(l)-1].Rule]
			met[last.Kind]++
			switch last.Kind {
			case api.RuRound:
				equal(t, n%last.N, 0, x, due, grade, mass)
			case api.RuLeast:
				equal(t, n >= last.N, true, x, due, grade, mass)
			case api.RuMost:
				equal(t, n <= last.N, true, x, due, grade, mass)
			}
		}
	})
	enough(t, met, 200, api.RuDue, api.RuRebate, api.RuLeast, api.RuMost, api.RuRound)
}

// P7.14: rules that change nothing, wherever they stand.
func TestIdleRules(t *testing.T) {
	forTariffs(500, 6, func(d *dice, x api.Tariff) {
		s := d.masses()
		name := d.due()
		for _, r := range []api.Rule{
			rebate(name, 0, d.between(1, api.MaxShare)), least(name, 0), round(name, d.between(api.WayUp, api.WayNear), 1),
			due(name, flat(0)), due(name, flat(0), per(d.between(1, 9), 0, 0, api.MaxMass)),
		} {
			if d.one(2) {
				r = of(r, "flint", "s2")
			}
			i := d.between(0, len(x.Rules))
			y := rules(slices.Insert(slices.Clone(x.Rules), i, r)...)
			equal(t, placeOf(t, x, y, s), place{is: true}, x, y, s)
			equal(t, slices.Contains(spareOf(t, y, s), i), true, y, s)
			equal(t, slices.Contains(restsOf(t, y, d.cargo()), i), false, y)
			l, e := tariff.Trace(y, name, "flint", s.Lo)
			good(t, e)
			for _, z := range l {
				equal(t, z.Rule != i || z.Before == z.After, true, y, z)
			}
		}
	})
}
