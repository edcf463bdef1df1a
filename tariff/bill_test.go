package tariff_test

import (
	"slices"
	"testing"

	"kentledge/api"
	"kentledge/tariff"
)

// restsByWords are the rules without each of which the bill has another sum for some due.
func restsByWords(t api.Tariff, cargo []api.Lot) []int {
	var l []int
	for i := range t.Rules {
		sums := map[string]int{}
		for _, c := range billByWords(less(t, i), cargo) {
			sums[c.Due] = c.Pence
		}
		if slices.ContainsFunc(billByWords(t, cargo), func(c api.Charge) bool { return sums[c.Due] != c.Pence }) {
			l = append(l, i)
		}
	}
	return l
}

func restsOf(t *testing.T, x api.Tariff, cargo []api.Lot) []int {
	t.Helper()
	l, e := tariff.Rests(x, cargo)
	good(t, e, x, cargo)
	return l
}

// P7.4: the examples, and bills of nothing.
func TestBillsOfExamples(t *testing.T) {
	cargo := []api.Lot{lot("flint", 200), lot("shingle", 200)}
	sameList(t, billOf(t, example(), cargo), []api.Charge{{Due: "bond", Pence: 200}, {Due: "wharf", Pence: 72}})
	sameList(t, restsOf(t, example(), cargo), []int{0, 1, 2, 5})
	sameList(t, billOf(t, example(), nil), []api.Charge{{Due: "bond"}, {Due: "wharf"}})
	sameList(t, restsOf(t, example(), nil), nil)
	sameList(t, billOf(t, api.Tariff{}, cargo), nil)
	sameList(t, restsOf(t, api.Tariff{}, cargo), nil)
	sameList(t, billOf(t, example(), []api.Lot{lot("", 0), lot("", 25), lot("slag", api.MaxMass)}), []api.Charge{{Due: "bond", Pence: 300}, {Due: "wharf", Pence: 9860}})
	sameList(t, restsOf(t, example(), []api.Lot{lot("", 0)}), []int{3, 5}) // 0 to 6, and that is rounded to 8
}

// P7.4: a due that is not there any more has 0, and a bill can rest on each of two rules, or on none of them.
func TestRestsOfRules(t *testing.T) {
	is := func(want []int, l ...api.Rule) {
		t.Helper()
		sameList(t, restsOf(t, rules(l...), []api.Lot{lot("", 5)}), want, l)
	}
	is([]int{0}, due("a", flat(1)))
	is(nil, due("a", flat(0)))
	is(nil, most("a", 3))
	is([]int{0}, least("a", 3))
	is(nil, least("a", 3), least("a", 3))
	is([]int{1}, least("a", 3), least("a", 4))
	is([]int{0, 1, 2}, due("a", flat(8)), rebate("a", 1, 2), due("b", flat(1)))
	is([]int{1}, due("a", flat(8)), most("a", 0), least("b", 0))
	is([]int{1}, of(due("a", flat(8)), "c"), due("a", flat(9)))
	is([]int{0, 1}, due("a", flat(3)), due("a", flat(5)), of(rebate("a", 1, 1), "c"))
}

// P7.4: cargoes as large as can be.
func TestLargestCargo(t *testing.T) {
	var cargo []api.Lot
	for range api.MaxLots {
		cargo = append(cargo, lot(fullNames('g', api.MaxGrades)[7], api.MaxMass))
	}
	all := api.MaxLots * api.MaxRules * api.MaxTerms * api.MaxPay * api.MaxMass
	sameList(t, billOf(t, full(), cargo), []api.Charge{{Due: fullNames('d', 1)[0], Pence: all}})
	equal(t, len(restsOf(t, full(), cargo)), api.MaxRules)
	x := full()
	for i, name := range fullNames('e', api.MaxRules) {
		x.Rules[api.MaxRules-1-i].Due = name
	}
	bill := billOf(t, x, cargo)
	equal(t, len(bill), api.MaxRules)
	for i, name := range fullNames('e', api.MaxRules) {
		equal(t, bill[i], api.Charge{Due: name, Pence: all / api.MaxRules})
	}
}

// P7.4: bills, and what they rest on, by the words of the chapter, for rolled tariffs.
func TestBillsAndRests(t *testing.T) {
	met := map[bool]int{}
	forTariffs(3000, 7, func(d *dice, x api.Tariff) {
		cargo := d.cargo()
		sameList(t, billOf(t, x, cargo), billByWords(x, cargo), x, cargo)
		l := restsOf(t, x, cargo)
		sameList(t, l, restsByWords(x, cargo), x, cargo)
		for i := range x.Rules {
			met[slices.Contains(l, i)]++
		}
	})
	enough(t, met, 1000, true, false)
}
