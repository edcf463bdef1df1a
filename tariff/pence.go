package tariff

import (
	"iter"
	"slices"

	"kentledge/api"
)

// masses yields the masses of a span.
func masses(s api.Span) iter.Seq[int] {
	return func(yield func(int) bool) {
		for mass := s.Lo; mass <= s.Hi; mass++ {
			if !yield(mass) {
				return
			}
		}
	}
}

// alone is a span with a mass and no other.
func alone(mass int) api.Span { return api.Span{Lo: mass, Hi: mass} }

// step is a rule with its index and with what it makes of the pence ahead of it, for each mass of a span.
type step struct {
	api.Rule
	index int
	apply func(pence, mass int) int
}

// steps returns the rules of a tariff, ready for the masses of a span.
func steps(t api.Tariff, s api.Span) []step {
	var l []step
	for i, r := range t.Rules {
		l = append(l, step{Rule: r, index: i, apply: applying(r, s)})
	}
	return l
}

// stepsFor returns those that are for a due and a grade.
func stepsFor(l []step, due, grade string) []step {
	var some []step
	for _, x := range l {
		if x.Due == due && (len(x.Grades) == 0 || slices.Contains(x.Grades, grade)) {
			some = append(some, x)
		}
	}
	return some
}

// penceOf returns what steps that are for a due and a grade leave for a mass.
func penceOf(l []step, mass int) int {
	pence := 0
	for _, x := range l {
		pence = x.apply(pence, mass)
	}
	return pence
}

// applying returns what a rule makes of pence, for each mass of a span.
func applying(r api.Rule, s api.Span) func(pence, mass int) int {
	switch r.Kind {
	case api.RuDue:
		var sums []int // found once, since the same masses are gone through for many grades
		for mass := range masses(s) {
			sums = append(sums, sumOf(r.Terms, mass))
		}
		return func(pence, mass int) int { return pence + sums[mass-s.Lo] }
	case api.RuRebate:
		return func(pence, _ int) int { return pence - pence*r.N/r.D }
	case api.RuLeast:
		return func(pence, _ int) int { return max(pence, r.N) }
	case api.RuMost:
		return func(pence, _ int) int { return min(pence, r.N) }
	}
	rounded := rounding(r.Way, r.N)
	return func(pence, _ int) int { return rounded(pence) }
}

// rounding returns what makes pence a multiple of n: as much is added as the way asks for, and what is over then is taken off.
func rounding(way, n int) func(pence int) int {
	more := 0
	switch way {
	case api.WayUp:
		more = n - 1
	case api.WayNear:
		more = n / 2
	}
	return func(pence int) int { return (pence + more) / n * n }
}

func sumOf(l []api.Term, mass int) int {
	sum := 0
	for _, t := range l {
		sum += t.Pay * times(t, mass)
	}
	return sum
}

// times returns how often a term is to be paid.
func times(t api.Term, mass int) int {
	if isFlat(t) {
		return 1
	}
	counted := max(0, min(mass, t.Upto)-t.Above)
	return (counted + t.Per - 1) / t.Per
}

// checkAsked returns the first error of a tariff, of a due and of a grade.
func checkAsked(t api.Tariff, due, grade string) api.Errno {
	if e := Check(t); e != api.OK {
		return e
	}
	if !slices.ContainsFunc(t.Rules, func(r api.Rule) bool { return r.Due == due }) {
		return api.ErrNone
	}
	if !isGrade(grade) {
		return api.ErrArg
	}
	return api.OK
}

// Pence returns what is to be paid for a due.
func Pence(t api.Tariff, due, grade string, mass int) (int, api.Errno) {
	effects, e := Trace(t, due, grade, mass)
	if len(effects) == 0 {
		return 0, e
	}
	return effects[len(effects)-1].After, e
}

// Trace returns what each rule does to the pence of a due.
func Trace(t api.Tariff, due, grade string, mass int) ([]api.Effect, api.Errno) {
	if e := checkAsked(t, due, grade); e != api.OK {
		return nil, e
	}
	if !isMass(mass) {
		return nil, api.ErrArg
	}
	var effects []api.Effect
	pence := 0
	for _, x := range stepsFor(steps(t, alone(mass)), due, grade) {
		after := x.apply(pence, mass)
		effects = append(effects, api.Effect{Rule: x.index, Before: pence, After: after})
		pence = after
	}
	return effects, api.OK
}
