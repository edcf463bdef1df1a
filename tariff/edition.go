package tariff

import (
	"iter"
	"slices"

	"kentledge/api"
)

func isID(n int) bool { return within(n, 1, api.MaxID) }

func isDay(n int) bool { return within(n, 0, api.MaxDay) }

// CheckEditions returns the first error of editions.
func CheckEditions(l []api.Edition) (api.Errno, int) {
	if len(l) > api.MaxEditions {
		return api.ErrLimit, -1
	}
	for i, x := range l {
		if e := checkEdition(l[:i], x); e != api.OK {
			return e, i
		}
	}
	return api.OK, -1
}

// checkEdition returns the first error of an edition behind others.
func checkEdition(before []api.Edition, x api.Edition) api.Errno {
	if !isID(x.ID) || !isDay(x.From) {
		return api.ErrArg
	}
	if slices.ContainsFunc(before, func(y api.Edition) bool { return y.ID == x.ID }) {
		return api.ErrTwice
	}
	if n := len(before); n > 0 && x.From <= before[n-1].From {
		return api.ErrArg
	}
	return Check(x.Tariff)
}

// Add returns editions with one more.
func Add(l []api.Edition, x api.Edition) ([]api.Edition, api.Errno) {
	if e, _ := CheckEditions(l); e != api.OK {
		return nil, e
	}
	if slices.ContainsFunc(l, func(y api.Edition) bool { return y.ID == x.ID || y.From == x.From }) {
		return nil, api.ErrTwice
	}
	at := begun(l, x.From)
	more := slices.Concat(l[:at], []api.Edition{x}, l[at:])
	if e, _ := CheckEditions(more); e != api.OK {
		return nil, e
	}
	for i := range more {
		more[i] = copyOf(more[i])
	}
	return more, api.OK
}

// begun returns how many editions begin on a day, or ahead of it.
func begun(l []api.Edition, day int) int {
	n := 0
	for n < len(l) && l[n].From <= day {
		n++
	}
	return n
}

// copyOf returns an edition that shares no memory with another one.
func copyOf(x api.Edition) api.Edition {
	x.Tariff.Rules = slices.Clone(x.Tariff.Rules)
	for i, r := range x.Tariff.Rules {
		x.Tariff.Rules[i].Grades = slices.Clone(r.Grades)
		x.Tariff.Rules[i].Terms = slices.Clone(r.Terms)
	}
	return x
}

// InForce returns the edition that is in force on a day.
func InForce(l []api.Edition, day int) (api.Edition, api.Errno) {
	if e, _ := CheckEditions(l); e != api.OK {
		return api.Edition{}, e
	}
	if !isDay(day) {
		return api.Edition{}, api.ErrArg
	}
	n := begun(l, day)
	if n == 0 {
		return api.Edition{}, api.ErrNone
	}
	return copyOf(l[n-1]), api.OK
}

// Due returns the bill of a cargo on a day.
func Due(l []api.Edition, day int, cargo []api.Lot) ([]api.Charge, api.Errno) {
	x, e := InForce(l, day)
	if e != api.OK {
		return nil, e
	}
	return Bill(x.Tariff, cargo)
}

// Cheapest returns the first day of a span on which a bill is least, and its sum.
func Cheapest(l []api.Edition, days api.Span, cargo []api.Lot) (int, int, api.Errno) {
	if e, _ := CheckEditions(l); e != api.OK {
		return 0, 0, e
	}
	if !isDay(days.Lo) || !isDay(days.Hi) || days.Lo > days.Hi {
		return 0, 0, api.ErrArg
	}
	if e := checkCargo(cargo); e != api.OK {
		return 0, 0, e
	}
	day, least, found := 0, 0, false
	for first, x := range inTurn(l, days) {
		bill, _ := Bill(x.Tariff, cargo) // no error: both were checked
		if sum := total(bill); !found || sum < least {
			day, least, found = first, sum, true
		}
	}
	if !found {
		return 0, 0, api.ErrNone
	}
	return day, least, api.OK
}

// inTurn yields the editions that are in force within a span of days, each with its first one of these days.
func inTurn(l []api.Edition, days api.Span) iter.Seq2[int, api.Edition] {
	return func(yield func(int, api.Edition) bool) {
		for _, x := range l[max(0, begun(l, days.Lo)-1):begun(l, days.Hi)] {
			if !yield(max(x.From, days.Lo), x) {
				return
			}
		}
	}
}
