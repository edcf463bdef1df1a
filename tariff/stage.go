package tariff

import (
	"cmp"
	"slices"

	"kentledge/api"
)

// checkMasses returns the first error of a span of masses.
func checkMasses(s api.Span) api.Errno {
	if !isMass(s.Lo) || !isMass(s.Hi) || s.Lo > s.Hi {
		return api.ErrArg
	}
	if s.Hi-s.Lo+1 > api.MaxMasses {
		return api.ErrLimit
	}
	return api.OK
}

// Stages returns the masses of a span for which the same is to be paid.
func Stages(t api.Tariff, due, grade string, s api.Span) ([]api.Stage, api.Errno) {
	if e := checkAsked(t, due, grade); e != api.OK {
		return nil, e
	}
	if e := checkMasses(s); e != api.OK {
		return nil, e
	}
	var stages []api.Stage
	l := stepsFor(steps(t, s), due, grade)
	for mass := range masses(s) {
		pence := penceOf(l, mass)
		last := len(stages) - 1
		if last >= 0 && stages[last].Pence == pence {
			stages[last].Masses.Hi = mass
		} else {
			stages = append(stages, api.Stage{Masses: alone(mass), Pence: pence})
		}
	}
	return stages, api.OK
}

// Ends returns the least and the greatest pence over a span of masses.
func Ends(t api.Tariff, due, grade string, s api.Span) (low, high api.Stage, e api.Errno) {
	stages, e := Stages(t, due, grade, s)
	if e != api.OK {
		return low, high, e
	}
	byPence := func(a, b api.Stage) int { return cmp.Compare(a.Pence, b.Pence) }
	return slices.MinFunc(stages, byPence), slices.MaxFunc(stages, byPence), api.OK
}

// Falls returns the first mass for which less is to be paid than for one hundredweight less. There is none as long as each kind of rules leaves no less of more pence, as all do now.
func Falls(t api.Tariff, due, grade string, s api.Span) (int, bool, api.Errno) {
	stages, e := Stages(t, due, grade, s)
	for i, x := range stages {
		if i > 0 && x.Pence < stages[i-1].Pence {
			return x.Masses.Lo, true, api.OK
		}
	}
	return 0, false, e
}

// From returns the least mass of a span for which so much is to be paid.
func From(t api.Tariff, due, grade string, s api.Span, pence int) (int, api.Errno) {
	stages, e := Stages(t, due, grade, s)
	if e != api.OK {
		return 0, e
	}
	i := slices.IndexFunc(stages, func(x api.Stage) bool { return x.Pence >= pence })
	if i < 0 {
		return 0, api.ErrNone
	}
	return stages[i].Masses.Lo, api.OK
}
