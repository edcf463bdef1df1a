package tariff

import (
	"slices"

	"kentledge/api"
)

// Same returns where two tariffs differ first.
func Same(a, b api.Tariff, s api.Span) (due, grade string, mass int, is bool, e api.Errno) {
	for _, e := range []api.Errno{Check(a), Check(b), checkMasses(s)} {
		if e != api.OK {
			return "", "", 0, false, e
		}
	}
	due, grade, mass, is = difference(steps(a, s), steps(b, s), s)
	return due, grade, mass, is, api.OK
}

// difference returns where the steps of two tariffs differ first, or that they are the same.
func difference(a, b []step, s api.Span) (due, grade string, mass int, is bool) {
	both := slices.Concat(a, b)
	is = true
search:
	for _, d := range sortedNames(both, func(x step) []string { return dues(x.Rule) }) {
		for _, g := range gradesFor(both, d) {
			x, y := stepsFor(a, d, g), stepsFor(b, d, g)
			for m := range masses(s) {
				if penceOf(x, m) != penceOf(y, m) {
					due, grade, mass, is = d, g, m, false
					break search
				}
			}
		}
	}
	return due, grade, mass, is
}

// gradesFor returns the empty grade, and all grades that steps for a due name. For each other grade as much is to be paid as for the empty one.
func gradesFor(l []step, due string) []string {
	names := sortedNames(l, func(x step) []string {
		if x.Due != due {
			return nil
		}
		return grades(x.Rule)
	})
	return append([]string{""}, names...)
}

// Spare returns the rules without each of which nothing changes over a span of masses.
func Spare(t api.Tariff, s api.Span) ([]int, api.Errno) {
	if e := Check(t); e != api.OK {
		return nil, e
	}
	if e := checkMasses(s); e != api.OK {
		return nil, e
	}
	var spare []int
	l := steps(t, s)
	for i := range l {
		if _, _, _, is := difference(l, without(l, i), s); is {
			spare = append(spare, i)
		}
	}
	return spare, api.OK
}
