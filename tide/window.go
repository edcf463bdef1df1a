package tide

import "kentledge/api"

// Windows returns when the water is at least so high, in a span of minutes.
func Windows(w api.Water, s api.Span, height int) ([]api.Span, api.Errno) {
	if e := checkMinutes(w, s); e != api.OK {
		return nil, e
	}
	return windows(w, s, height), api.OK
}

func windows(w api.Water, s api.Span, height int) []api.Span {
	var l []api.Span
	open := false
	for t := range stands(w, s) {
		switch {
		case t.Height < height:
			open = false
		case open: // the stands differ in height, but both are high enough
			l[len(l)-1].Hi = t.Span.Hi
		default:
			l, open = append(l, t.Span), true
		}
	}
	return l
}

// Next returns the first window of at least some minutes, in a span of minutes.
func Next(w api.Water, s api.Span, height, long int) (api.Span, api.Errno) {
	if e := checkMinutes(w, s); e != api.OK {
		return api.Span{}, e
	}
	if long < 1 {
		return api.Span{}, api.ErrArg
	}
	for _, t := range windows(w, s, height) {
		if count(t) >= long {
			return t, api.OK
		}
	}
	return api.Span{}, api.ErrNone
}

// Minutes returns in how many minutes of a span the water is at least so high.
func Minutes(w api.Water, s api.Span, height int) (int, api.Errno) {
	if e := checkMinutes(w, s); e != api.OK {
		return 0, e
	}
	n := 0
	for _, t := range windows(w, s, height) {
		n += count(t)
	}
	return n, api.OK
}
