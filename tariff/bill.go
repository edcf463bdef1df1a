package tariff

import (
	"slices"

	"kentledge/api"
)

func checkCargo(cargo []api.Lot) api.Errno {
	if len(cargo) > api.MaxLots {
		return api.ErrLimit
	}
	for _, lot := range cargo {
		if !isGrade(lot.Grade) || !isMass(lot.Mass) {
			return api.ErrArg
		}
	}
	return api.OK
}

// Bill returns what is to be paid for all dues of a cargo.
func Bill(t api.Tariff, cargo []api.Lot) ([]api.Charge, api.Errno) {
	if e := Check(t); e != api.OK {
		return nil, e
	}
	if e := checkCargo(cargo); e != api.OK {
		return nil, e
	}
	var bill []api.Charge
	sums := sumsOf(t, cargo)
	for _, due := range sortedNames(t.Rules, dues) {
		bill = append(bill, api.Charge{Due: due, Pence: sums[due]})
	}
	return bill, api.OK
}

// sumsOf returns the pence of each due for a cargo.
func sumsOf(t api.Tariff, cargo []api.Lot) map[string]int {
	sums := map[string]int{}
	for _, lot := range cargo {
		l := steps(t, alone(lot.Mass))
		for _, due := range sortedNames(t.Rules, dues) {
			sums[due] += penceOf(stepsFor(l, due, lot.Grade), lot.Mass)
		}
	}
	return sums
}

// total returns the sum of all charges of a bill.
func total(bill []api.Charge) int {
	sum := 0
	for _, c := range bill {
		sum += c.Pence
	}
	return sum
}

// without returns a list without one of its things.
func without[T any](l []T, i int) []T { return slices.Concat(l[:i], l[i+1:]) }

// Rests returns the rules without each of which a bill is another one.
func Rests(t api.Tariff, cargo []api.Lot) ([]int, api.Errno) {
	if e := Check(t); e != api.OK {
		return nil, e
	}
	if e := checkCargo(cargo); e != api.OK {
		return nil, e
	}
	var rests []int
	sums := sumsOf(t, cargo)
	for i, r := range t.Rules { // a rule is for one due, and does nothing to others
		less := sumsOf(api.Tariff{Rules: without(t.Rules, i)}, cargo)
		if less[r.Due] != sums[r.Due] {
			rests = append(rests, i)
		}
	}
	return rests, api.OK
}
