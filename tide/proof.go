package tide

import (
	"slices"

	"kentledge/api"
)

// Prove returns where to cut a span of minutes, so that in each part the least heights of the cycles show that the water is at least so high.
func Prove(w api.Water, s api.Span, height int) ([]int, api.Errno) {
	if e := checkMinutes(w, s); e != api.OK {
		return nil, e
	}
	cuts, found := prove(w, s, height)
	if !found {
		return nil, api.ErrNone
	}
	if len(cuts) > api.MaxCuts {
		return nil, api.ErrLimit
	}
	return cuts, api.OK
}

// prove returns the cuts, however many they are, and whether there are any: a minute that is too low is told before their number is.
func prove(w api.Water, s api.Span, height int) ([]int, bool) {
	var cuts []int
	var part addends
	found := true
search:
	for tick, a := range moments(w, s) {
		longer := a
		if tick > s.Lo {
			longer = lower(part, a)
		}
		switch {
		case w.Level+longer.sum() >= height:
			part = longer
		case w.Level+a.sum() >= height:
			cuts, part = append(cuts, tick), a
		default:
			cuts, found = nil, false
			break search
		}
	}
	return cuts, found
}

// lower returns the least of each two addends.
func lower(a, b addends) addends {
	for i := range a {
		a[i] = least(a[i], b[i])
	}
	return a
}

// CheckProof returns OK if cuts prove that the water is at least so high in a span of minutes.
func CheckProof(w api.Water, s api.Span, height int, cuts []int) api.Errno {
	if e := checkMinutes(w, s); e != api.OK {
		return e
	}
	if len(cuts) > api.MaxCuts {
		return api.ErrLimit
	}
	if !areCuts(s, cuts) || !proves(w, s, height, cuts) {
		return api.ErrProof
	}
	return api.OK
}

func areCuts(s api.Span, cuts []int) bool {
	before := s.Lo
	for _, c := range cuts {
		if c <= before || c > s.Hi {
			return false
		}
		before = c
	}
	return true
}

// proves looks at the floor of each part as far as it has come: a longer part has no higher one.
func proves(w api.Water, s api.Span, height int, cuts []int) bool {
	var part addends
	for tick, a := range moments(w, s) {
		if _, cut := slices.BinarySearch(cuts, tick); cut || tick == s.Lo {
			part = a
		}
		part = lower(part, a)
		if w.Level+part.sum() < height {
			return false
		}
	}
	return true
}
