package tariff_test

import (
	"testing"

	"kentledge/api"
	"kentledge/tariff"
)

// stagesByWords are the longest runs of masses with the same pence.
func stagesByWords(t api.Tariff, due, grade string, s api.Span) []api.Stage {
	var l []api.Stage
	for lo := s.Lo; lo <= s.Hi; {
		x := stage(lo, lo, penceByWords(t, due, grade, lo))
		for x.Masses.Hi < s.Hi && penceByWords(t, due, grade, x.Masses.Hi+1) == x.Pence {
			x.Masses.Hi++
		}
		l = append(l, x)
		lo = x.Masses.Hi + 1
	}
	return l
}

func stage(lo, hi, pence int) api.Stage { return api.Stage{Masses: span(lo, hi), Pence: pence} }

func stagesOf(t *testing.T, x api.Tariff, due, grade string, s api.Span) []api.Stage {
	t.Helper()
	l, e := tariff.Stages(x, due, grade, s)
	good(t, e, x, due, grade, s)
	return l
}

// P7.5: the examples.
func TestStagesOfExamples(t *testing.T) {
	x, s := example(), span(0, 60)
	want := []api.Stage{stage(0, 40, 12), stage(41, 60, 16)}
	sameList(t, stagesOf(t, x, "wharf", "", s), want)
	low, high, e := tariff.Ends(x, "wharf", "", s)
	good(t, e)
	equal(t, low, want[0])
	equal(t, high, want[1])
	m, is, e := tariff.Falls(x, "wharf", "", s)
	good(t, e)
	equal(t, m, 0)
	equal(t, is, false)
	for pence, want := range map[int]int{13: 41, 16: 41, 12: 0, 0: 0, -1: 0, minInt: 0} {
		m, e := tariff.From(x, "wharf", "", s, pence)
		good(t, e, pence)
		equal(t, m, want, pence)
	}
	for _, pence := range []int{17, 100, maxInt} {
		m, e := tariff.From(x, "wharf", "", s, pence)
		equal(t, e, api.ErrNone, pence)
		equal(t, m, 0, pence)
	}
	m, e = tariff.From(x, "wharf", "", span(30, 60), 3)
	good(t, e)
	equal(t, m, 30)
}

// P7.5: stages are cut off at the ends of the span, also where it has one mass, or as many as can be at the end of all.
func TestStagesOfSpans(t *testing.T) {
	x := example()
	sameList(t, stagesOf(t, x, "wharf", "", span(40, 41)), []api.Stage{stage(40, 40, 12), stage(41, 41, 16)})
	sameList(t, stagesOf(t, x, "wharf", "", span(40, 40)), []api.Stage{stage(40, 40, 12)})
	sameList(t, stagesOf(t, x, "bond", "flint", span(api.MaxMass, api.MaxMass)), []api.Stage{stage(api.MaxMass, api.MaxMass, 100)})
	last := span(api.MaxMass-api.MaxMasses+1, api.MaxMass)
	sameList(t, stagesOf(t, x, "bond", "", last), []api.Stage{{Masses: last, Pence: 100}})
	each := rules(due("a", per(1, 1, 0, api.MaxMass)))
	l := stagesOf(t, each, "a", "", last)
	equal(t, len(l), api.MaxMasses)
	for i, x := range l {
		equal(t, x, stage(last.Lo+i, last.Lo+i, last.Lo+i))
	}
	low, high, e := tariff.Ends(each, "a", "", last)
	good(t, e)
	equal(t, low, stage(last.Lo, last.Lo, last.Lo))
	equal(t, high, stage(api.MaxMass, api.MaxMass, api.MaxMass))
}

// P7.5: all functions with spans by the words of the chapter, for rolled tariffs and spans.
func TestStages(t *testing.T) {
	met := map[int]int{}
	forTariffs(1000, 7, func(d *dice, x api.Tariff) {
		for _, due := range duesByWords(x) {
			n := checkStages(t, x, due, d.grade(), d.masses())
			met[min(n, 4)]++
		}
	})
	enough(t, met, 50, 1, 2, 3, 4)
}

// checkStages compares all functions with spans with what a walk along the masses finds, and returns how many stages there are.
func checkStages(t *testing.T, x api.Tariff, due, grade string, s api.Span) int {
	t.Helper()
	l := stagesByWords(x, due, grade, s)
	sameList(t, stagesOf(t, x, due, grade, s), l, x, due, grade, s)
	least, greatest := l[0], l[0]
	for _, y := range l {
		if y.Pence < least.Pence {
			least = y
		}
		if y.Pence > greatest.Pence {
			greatest = y
		}
	}
	low, high, e := tariff.Ends(x, due, grade, s)
	good(t, e, x, due, grade, s)
	equal(t, low, least, x, due, grade, s)
	equal(t, high, greatest, x, due, grade, s)
	fall, falls := 0, false
	for m := s.Hi; m > s.Lo; m-- {
		if penceByWords(x, due, grade, m) < penceByWords(x, due, grade, m-1) {
			fall, falls = m, true
		}
	}
	m, is, e := tariff.Falls(x, due, grade, s)
	good(t, e, x, due, grade, s)
	equal(t, m, fall, x, due, grade, s)
	equal(t, is, falls, x, due, grade, s)
	for pence := least.Pence - 1; pence <= greatest.Pence+1; pence++ {
		checkFrom(t, x, due, grade, s, pence)
	}
	return len(l)
}

func checkFrom(t *testing.T, x api.Tariff, due, grade string, s api.Span, pence int) {
	t.Helper()
	want, e := 0, api.ErrNone
	for m := s.Hi; m >= s.Lo; m-- {
		if penceByWords(x, due, grade, m) >= pence {
			want, e = m, api.OK
		}
	}
	m, got := tariff.From(x, due, grade, s, pence)
	equal(t, got, e, x, due, grade, s, pence)
	equal(t, m, want, x, due, grade, s, pence)
}
