package tariff_test

import (
	"slices"
	"strconv"
	"testing"

	"kentledge/api"
	"kentledge/tariff"
)

// place is where two tariffs differ, or that they are the same.
type place struct {
	due, grade string
	mass       int
	is         bool
}

// placeByWords goes through all that there is.
func placeByWords(a, b api.Tariff, s api.Span) place {
	for _, due := range duesByWords(a, b) {
		for _, grade := range append([]string{""}, gradesByWords(a, b)...) {
			for m := s.Lo; m <= s.Hi; m++ {
				if penceByWords(a, due, grade, m) != penceByWords(b, due, grade, m) {
					return place{due, grade, m, false}
				}
			}
		}
	}
	return place{is: true}
}

func placeOf(t *testing.T, a, b api.Tariff, s api.Span) place {
	t.Helper()
	due, grade, mass, is, e := tariff.Same(a, b, s)
	good(t, e, a, b, s)
	return place{due, grade, mass, is}
}

func spareOf(t *testing.T, x api.Tariff, s api.Span) []int {
	t.Helper()
	l, e := tariff.Spare(x, s)
	good(t, e, x, s)
	return l
}

// P7.6: the examples.
func TestSameOfExamples(t *testing.T) {
	x, s := example(), span(0, 60)
	sameList(t, spareOf(t, x, s), []int{1, 2})
	equal(t, placeOf(t, x, rules(x.Rules[:5]...), s), place{due: "bond"})
	equal(t, placeOf(t, rules(x.Rules[:5]...), x, s), place{due: "bond"})
	equal(t, placeOf(t, x, x, s), place{is: true})
	equal(t, placeOf(t, x, example(), span(api.MaxMass-4999, api.MaxMass)), place{is: true})
	equal(t, placeOf(t, x, less(x, 1), s), place{is: true})
	equal(t, placeOf(t, x, less(x, 1), span(0, 4999)), place{"wharf", "flint", 161, false})
	equal(t, placeOf(t, less(x, 1), x, span(200, 200)), place{"wharf", "flint", 200, false})
	equal(t, placeOf(t, x, less(x, 2), span(0, 4999)), place{"wharf", "shingle", 61, false})
	equal(t, placeOf(t, api.Tariff{}, api.Tariff{}, s), place{is: true})
	sameList(t, spareOf(t, api.Tariff{}, s), nil)
	equal(t, placeOf(t, api.Tariff{}, x, s), place{due: "bond"})
	equal(t, placeOf(t, api.Tariff{}, rules(of(most("a", 0), "b"), due("c", flat(0))), s), place{is: true})
}

// P7.6: dues come by name, then the empty grade, then grades by name, then masses; a due or a grade that only one tariff has counts.
func TestFirstDifference(t *testing.T) {
	late := due("a", per(1, 1, 40, 50))
	is := func(a, b api.Tariff, want place) {
		t.Helper()
		equal(t, placeOf(t, a, b, span(10, 60)), want, a, b)
		equal(t, placeOf(t, b, a, span(10, 60)), want, a, b)
	}
	is(rules(late, due("b", flat(1))), api.Tariff{}, place{"a", "", 41, false})
	is(rules(due("b", flat(1)), late), api.Tariff{}, place{"a", "", 41, false})
	is(rules(due("b", flat(1))), rules(late), place{"a", "", 41, false})
	is(rules(late, of(due("a", flat(1)), "b")), api.Tariff{}, place{"a", "", 41, false})
	is(rules(of(late, "b"), of(due("a", flat(1)), "c")), api.Tariff{}, place{"a", "b", 41, false})
	is(rules(of(due("a", flat(1)), "c"), of(late, "b")), api.Tariff{}, place{"a", "b", 41, false})
	is(rules(of(due("a", flat(1)), "c")), rules(of(late, "b")), place{"a", "b", 41, false})
	is(rules(of(due("a", flat(1)), "d", "c")), rules(of(most("a", 7), "b")), place{"a", "c", 10, false})
	is(rules(due("a", flat(1))), rules(of(due("a", flat(1)), "b")), place{"a", "", 10, false})
	is(rules(due("a", flat(1)), of(most("a", 0), "b")), rules(due("a", flat(1))), place{"a", "b", 10, false})
	is(rules(due("a", per(1, 1, 60, 61))), api.Tariff{}, place{is: true})
	is(rules(due("a", per(1, 1, 59, 61))), api.Tariff{}, place{"a", "", 60, false})
	is(rules(due("a", flat(4)), rebate("a", 1, 2)), rules(least("a", 2)), place{is: true})
	is(rules(due("b", flat(2)), due("a", flat(1))), rules(due("a", flat(1)), due("b", flat(3))), place{"b", "", 10, false})
}

// P7.6: a rule is spare if without it nothing changes within the span, whatever the others that are spare do.
func TestSpareRules(t *testing.T) {
	is := func(want []int, s api.Span, l ...api.Rule) {
		t.Helper()
		sameList(t, spareOf(t, rules(l...), s), want, l)
	}
	is([]int{0, 1}, span(0, 9), least("a", 3), least("a", 3))
	is([]int{0}, span(0, 9), due("a", flat(0)))
	is(nil, span(0, 9), due("a", flat(1)), of(most("a", 0), "b"))
	is([]int{1}, span(0, 9), due("a", flat(1)), of(most("a", 1), "b"))
	is([]int{1}, span(0, 9), due("a", flat(1)), due("a", per(1, 1, 9, 10)))
	is(nil, span(0, 10), due("a", flat(1)), due("a", per(1, 1, 9, 10)))
	is([]int{0}, span(0, 9), of(most("b", 0), "c"), due("a", flat(1)))
	is([]int{0, 1}, span(5, 5), due("a", flat(7)), most("b", 1), rebate("a", 1, 1))
}

// P7.6: Same and Spare by the words of the chapter, for rolled tariffs, many of which are nearly the same.
func TestSameAndSpare(t *testing.T) {
	met := map[bool]int{}
	where := map[string]int{}
	forTariffs(3000, 5, func(d *dice, x api.Tariff) {
		s := d.masses()
		y := d.tariff(3)
		if len(x.Rules) > 0 && !d.one(4) {
			i := d.between(0, len(x.Rules)-1)
			y = rules(slices.Insert(less(x, i).Rules, i, d.rule())...)
		}
		got := placeOf(t, x, y, s)
		equal(t, got, placeByWords(x, y, s), x, y, s)
		met[got.is]++
		where[got.grade]++
		var spare []int
		for i := range x.Rules {
			if placeByWords(x, less(x, i), s).is {
				spare = append(spare, i)
			}
		}
		sameList(t, spareOf(t, x, s), spare, x, s)
	})
	enough(t, met, 200, true, false)
	enough(t, where, 20, someGrades()...)
}

// P7.6, R1: as many rules, grades, terms and masses as can be, and no difference.
func TestLargestTariffs(t *testing.T) {
	var x api.Tariff
	for i := range api.MaxRules {
		r := due("a", make([]api.Term, api.MaxTerms)...)
		for k := range r.Terms {
			r.Terms[k] = per(1+k, 0, k, api.MaxMass)
		}
		for k := range api.MaxGrades {
			if i%2 == 1 {
				r.Grades = append(r.Grades, "g"+strconv.Itoa(i*api.MaxGrades+k))
			}
		}
		x.Rules = append(x.Rules, r)
	}
	s := span(0, api.MaxMasses-1)
	equal(t, placeOf(t, x, api.Tariff{}, s), place{is: true})
	equal(t, len(spareOf(t, x, s)), api.MaxRules)
	equal(t, placeOf(t, full(), full(), s), place{is: true})
	equal(t, placeOf(t, full(), less(full(), 29), s), place{fullNames('d', 1)[0], fullNames('g', 1)[0], 1, false})
}
