package tariff_test

import (
	"testing"

	"kentledge/api"
	"kentledge/tariff"
)

// effectsByWords are the effects of a due, for a grade and a mass.
func effectsByWords(t api.Tariff, due, grade string, mass int) []api.Effect {
	var l []api.Effect
	before := 0
	for i, r := range t.Rules {
		if r.Due != due || !isFor(r, grade) {
			continue
		}
		after := behindByWords(r, before, mass)
		l = append(l, api.Effect{Rule: i, Before: before, After: after})
		before = after
	}
	return l
}

// P7.3: the examples.
func TestPenceOfExamples(t *testing.T) {
	for _, x := range []struct {
		due, grade  string
		mass, pence int
	}{
		{"wharf", "", 0, 12}, {"wharf", "", 25, 12}, {"wharf", "", 40, 12}, {"wharf", "", 41, 16}, {"wharf", "", 60, 16},
		{"wharf", "flint", 200, 40}, {"wharf", "flint", 0, 12}, {"wharf", "flint", 100, 20}, {"wharf", "flint", 101, 24},
		{"wharf", "shingle", 200, 32}, {"wharf", "slag", 200, 36}, {"bond", "", 0, 100}, {"bond", "flint", api.MaxMass, 100},
		{"wharf", "", api.MaxMass, 9836}, {"wharf", "flint", api.MaxMass, 9844},
	} {
		equal(t, penceOf(t, example(), x.due, x.grade, x.mass), x.pence, x)
	}
	l, e := tariff.Trace(example(), "wharf", "shingle", 200)
	good(t, e)
	sameList(t, l, []api.Effect{{Rule: 0, Before: 0, After: 36}, {Rule: 2, Before: 36, After: 33}, {Rule: 3, Before: 33, After: 33}, {Rule: 4, Before: 33, After: 32}})
	l, e = tariff.Trace(example(), "bond", "", 7)
	good(t, e)
	sameList(t, l, []api.Effect{{Rule: 5, Before: 0, After: 100}})
}

// P7.3: what each kind of a rule does, also behind others, at the ends of its terms and around its numbers.
func TestPenceOfRules(t *testing.T) {
	is := func(want, mass int, l ...api.Rule) {
		t.Helper()
		equal(t, penceOf(t, rules(l...), "a", "", mass), want, mass, l)
	}
	for mass, want := range map[int]int{0: 0, 99: 0, 100: 0, 101: 3, 140: 3, 141: 6, 180: 6, 181: 9, 190: 9, 191: 9, 220: 9, api.MaxMass: 9} {
		is(want, mass, due("a", per(40, 3, 100, 190)))
		is(want+7, mass, due("a", flat(2), per(40, 3, 100, 190), flat(5)))
		is(want+want, mass, due("a", per(40, 3, 100, 190)), due("a", per(40, 3, 100, 190)))
	}
	is(api.MaxMass, api.MaxMass, due("a", per(1, 1, 0, api.MaxMass)))
	is(1, api.MaxMass, due("a", per(1, 1, api.MaxMass-1, api.MaxMass)))
	is(0, api.MaxMass-1, due("a", per(1, 1, api.MaxMass-1, api.MaxMass)))
	is(1, 1, due("a", per(api.MaxMass, 1, 0, api.MaxMass)))
	is(1, api.MaxMass, due("a", per(api.MaxMass, 1, 0, api.MaxMass)))
	for pence, want := range map[int]int{0: 0, 1: 1, 2: 2, 3: 3, 4: 3, 7: 6, 8: 6, 36: 27, 39: 30} {
		is(want, 0, due("a", flat(pence)), rebate("a", 1, 4))
	}
	is(0, 0, due("a", flat(77)), rebate("a", 5, 5))
	is(1, 0, due("a", flat(77)), rebate("a", 999, 1000))
	is(77, 0, due("a", flat(77)), rebate("a", 0, 5))
	for pence, want := range map[int][3]int{0: {0, 0, 0}, 1: {4, 0, 0}, 2: {4, 0, 4}, 3: {4, 0, 4}, 4: {4, 4, 4}, 5: {8, 4, 4}, 6: {8, 4, 8}, 7: {8, 4, 8}} {
		for i, way := range []int{api.WayUp, api.WayDown, api.WayNear} {
			is(want[i], 0, due("a", flat(pence)), round("a", way, 4))
		}
	}
	for pence, want := range map[int]int{0: 0, 1: 0, 2: 0, 3: 5, 4: 5, 5: 5, 6: 5, 7: 5, 8: 10} {
		is(want, 0, due("a", flat(pence)), round("a", api.WayNear, 5))
	}
	for pence, want := range map[int][2]int{0: {5, 0}, 4: {5, 4}, 5: {5, 5}, 6: {6, 5}} {
		is(want[0], 0, due("a", flat(pence)), least("a", 5))
		is(want[1], 0, due("a", flat(pence)), most("a", 5))
	}
	is(9, 0, least("a", 9))
	is(0, 0, most("a", 9))
	is(17, 0, due("a", flat(20)), most("a", 10), due("a", flat(7))) // a rule does nothing to what comes behind
	is(10, 0, due("a", flat(7)), due("a", flat(20)), most("a", 10))
}

// P7.3: a rule is for a due and for its grades alone; without grades it is for each one, the empty one among them.
func TestPenceOfGrades(t *testing.T) {
	x := rules(due("a", flat(1)), of(due("a", flat(10)), "b", "c"), of(due("a", flat(100)), "c"), due("b", flat(1000)), of(due("c", flat(10000)), "b"))
	for grade, want := range map[string][3]int{"": {1, 1000, 0}, "b": {11, 1000, 10000}, "c": {111, 1000, 0}, "a": {1, 1000, 0}, "z": {1, 1000, 0}} {
		for i, due := range []string{"a", "b", "c"} {
			equal(t, penceOf(t, x, due, grade, 5), want[i], due, grade)
		}
	}
	l, e := tariff.Trace(x, "c", "", 5)
	good(t, e)
	equal(t, len(l), 0)
}

// P7.3: pence as great as can be.
func TestGreatestPence(t *testing.T) {
	name, grade := fullNames('d', 1)[0], fullNames('g', 1)[0]
	all := api.MaxRules * api.MaxTerms * api.MaxPay * api.MaxMass
	equal(t, penceOf(t, full(), name, grade, api.MaxMass), all)
	equal(t, penceOf(t, full(), name, "", api.MaxMass), 0)
	x := full()
	x.Rules[28] = rebate(name, 999, 1000)
	x.Rules[29] = round(name, api.WayDown, 7)
	left := all / 30 * 28
	left -= left * 999 / 1000
	equal(t, penceOf(t, x, name, grade, api.MaxMass), left-left%7)
}

// P7.3: Pence and Trace by the words of the chapter, for rolled tariffs.
func TestPenceAndTrace(t *testing.T) {
	met := map[int]int{}
	forTariffs(3000, 8, func(d *dice, x api.Tariff) {
		for _, due := range duesByWords(x) {
			grade, mass := d.grade(), d.between(0, 60)
			equal(t, penceOf(t, x, due, grade, mass), penceByWords(x, due, grade, mass), x, due, grade, mass)
			l, e := tariff.Trace(x, due, grade, mass)
			good(t, e, x, due, grade, mass)
			sameList(t, l, effectsByWords(x, due, grade, mass), x, due, grade, mass)
			met[len(l)]++
		}
	})
	enough(t, met, 50, 0, 1, 2, 3, 4)
}
