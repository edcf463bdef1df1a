package hull

import "kentledge/api"

// Displacement returns the mass of a ship with a loading.
func Displacement(s api.Ship, x []int) (int, api.Errno) {
	if e := checkLoadings(s, x); e != api.OK {
		return 0, e
	}
	return displacement(s, cargoOf(x)), api.OK
}

func displacement(s api.Ship, x cargo) int { return s.Light + x.total() }

// Moment returns the moment ahead of amidships.
func Moment(s api.Ship, x []int) (int, api.Errno) {
	if e := checkLoadings(s, x); e != api.OK {
		return 0, e
	}
	return moment(s, cargoOf(x)), api.OK
}

func moment(s api.Ship, x cargo) int { return s.Light*s.Lever + worth(x, levers(s, 1)) }

func rise(s api.Ship, x cargo) int { return s.Light*s.Height + worth(x, heights(s)) }

// levers returns the form whose value is what the holds add to the moment, times a factor.
func levers(s api.Ship, times int) []int {
	var form []int
	for _, h := range s.Holds {
		form = append(form, times*h.Lever)
	}
	return form
}

// heights returns the form whose value is what the holds add to the rise.
func heights(s api.Ship) []int {
	var form []int
	for _, h := range s.Holds {
		form = append(form, h.Height)
	}
	return form
}

// Gravity returns how high above the keel the centre of gravity lies.
func Gravity(s api.Ship, x []int) (api.Frac, api.Errno) {
	if e := checkLoadings(s, x); e != api.OK {
		return api.Frac{}, e
	}
	c := cargoOf(x)
	return lowest(rise(s, c), displacement(s, c)), api.OK
}

// Meta returns how high above the keel the metacentre lies, by the curve.
func Meta(s api.Ship, mass int) (api.Frac, api.Errno) {
	if e := Check(s); e != api.OK {
		return api.Frac{}, e
	}
	if !within(mass, s.Light, heaviest(s)) {
		return api.Frac{}, api.ErrArg
	}
	return table{s.Meta}.at(mass), api.OK
}

// Stiff returns the least metacentric height that a loading can have.
func Stiff(s api.Ship, x []int) (api.Frac, api.Errno) {
	if e := checkLoadings(s, x); e != api.OK {
		return api.Frac{}, e
	}
	c := cargoOf(x)
	d := displacement(s, c)
	v := table{s.Meta}.at(d)
	return lowest((v.Num-s.Meta.Err*v.Den)*d-rise(s, c)*v.Den, v.Den*d), api.OK
}

// Afloat returns the draughts of a loading.
func Afloat(s api.Ship, x []int) (api.Draughts, api.Errno) {
	if e := checkLoadings(s, x); e != api.OK {
		return api.Draughts{}, e
	}
	return afloat(s, cargoOf(x)), api.OK
}

func afloat(s api.Ship, x cargo) api.Draughts {
	mean := table{s.Mean}.at(displacement(s, x))
	m := moment(s, x)
	return api.Draughts{Fore: draught(s, mean, m), Aft: draught(s, mean, -m)}
}

// draught returns where the draught can lie at an end towards which the ship has a moment.
func draught(s api.Ship, mean api.Frac, moment int) api.Span {
	num, den := mean.Num*2*s.Turn+moment*mean.Den, mean.Den*2*s.Turn
	return api.Span{Lo: floor(num, den) - s.Mean.Err, Hi: ceiling(num, den) + s.Mean.Err}
}

// Deepest returns the greatest draught that a loading can have, and a loading that has it.
func Deepest(s api.Ship, l api.Load) (int, []int, api.Errno) {
	if e := CheckLoad(s, l); e != api.OK {
		return 0, nil, e
	}
	deepest := lying{down: -1} // less than all: the deeper end lies at least as deep as the mean draught
	for _, end := range [2]int{1, -1} {
		for x := range richest(l, levers(s, end)) {
			deepest = greater(deepest, lyingOf(s, x), func(y lying) int { return y.down })
		}
	}
	return deepest.down, deepest.list(len(s.Holds)), api.OK
}

// lying is a loading, and how deep its deeper end can lie.
type lying struct {
	cargo
	down int
}

func lyingOf(s api.Ship, x cargo) lying {
	d := afloat(s, x)
	return lying{cargo: x, down: max(d.Fore.Hi, d.Aft.Hi)}
}

// Clear reports whether a ship keeps some depth beneath her keel in all loadings.
func Clear(s api.Ship, l api.Load, depth, keel int) (bool, api.Errno) {
	down, _, e := Deepest(s, l)
	if e != api.OK {
		return false, e
	}
	if !within(depth, 0, api.MaxY) || !isTall(keel) {
		return false, api.ErrArg
	}
	return down+keel <= depth, api.OK
}
