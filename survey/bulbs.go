package survey

import (
	"slices"

	"kentledge/api"
)

// CheckBulbs returns the first error of hydrometers and glasses.
func CheckBulbs(b api.Bulbs) api.Errno {
	if len(b.Hydros) > api.MaxHydros || len(b.Glasses) > api.MaxGlasses {
		return api.ErrLimit
	}
	for i := range b.Hydros {
		if e := checkHydro(b, i); e != api.OK {
			return e
		}
	}
	for i := range b.Glasses {
		if e := checkGlass(b, i); e != api.OK {
			return e
		}
	}
	return api.OK
}

func checkHydro(b api.Bulbs, at int) api.Errno {
	h := b.Hydros[at]
	if !isID(h.ID) || !isSpanIn(h.Off, -api.MaxOff, api.MaxOff) {
		return api.ErrArg
	}
	if _, twice := hydroOf(b.Hydros[:at], h.ID); twice {
		return api.ErrTwice
	}
	return api.OK
}

func checkGlass(b api.Bulbs, at int) api.Errno {
	g := b.Glasses[at]
	if !isID(g.ID) || !within(g.Dense, api.MinDense, api.MaxDense) || !isSpanIn(g.Shown, 0, maxShown) {
		return api.ErrArg
	}
	if _, found := hydroOf(b.Hydros, g.Hydro); !found {
		return api.ErrNone
	}
	if _, twice := find(b.Glasses[:at], func(f api.Glass) bool { return f.ID == g.ID }); twice {
		return api.ErrTwice
	}
	return api.OK
}

func hydroOf(hydros []api.Hydro, id int) (api.Hydro, bool) {
	return find(hydros, func(h api.Hydro) bool { return h.ID == id })
}

// bulb is what the glasses of a hydrometer say, with what was known of it before.
type bulb struct {
	api.Hydro
	glasses []api.Glass
}

// bulbOf returns a hydrometer with its glasses. Its errors are those of all functions that are given a hydrometer.
func bulbOf(b api.Bulbs, hydro int) (bulb, api.Errno) {
	if e := CheckBulbs(b); e != api.OK {
		return bulb{}, e
	}
	h, found := hydroOf(b.Hydros, hydro)
	if !found {
		return bulb{}, api.ErrNone
	}
	k := bulb{Hydro: h}
	for _, g := range b.Glasses {
		if g.Hydro == hydro {
			k.glasses = append(k.glasses, g)
		}
	}
	return k, api.OK
}

// allowed returns the errors that a glass allows.
func allowed(g api.Glass) api.Span {
	return api.Span{Lo: g.Shown.Lo - g.Dense, Hi: g.Shown.Hi - g.Dense}
}

// errors returns the errors that a hydrometer can have; it is no span if there is none.
func (k bulb) errors() api.Span {
	all := k.Off
	for _, g := range k.glasses {
		all = common(all, allowed(g))
	}
	return all
}

// Off returns the errors that a hydrometer can have.
func Off(b api.Bulbs, hydro int) (api.Span, api.Errno) {
	k, e := bulbOf(b, hydro)
	if e != api.OK {
		return api.Span{}, e
	}
	return orClash(k.errors())
}

// Clashes returns the glasses that contradict each other.
func Clashes(b api.Bulbs, hydro int) ([][2]int, api.Errno) {
	k, e := bulbOf(b, hydro)
	if e != api.OK {
		return nil, e
	}
	var pairs [][2]int
	for i, g := range k.glasses {
		if contradict(allowed(g), k.Off) {
			pairs = append(pairs, [2]int{0, g.ID})
		}
		for _, f := range k.glasses[:i] {
			if contradict(allowed(g), allowed(f)) {
				pairs = append(pairs, [2]int{min(f.ID, g.ID), max(f.ID, g.ID)})
			}
		}
	}
	slices.SortFunc(pairs, func(p, q [2]int) int { return slices.Compare(p[:], q[:]) })
	return pairs, api.OK
}

func contradict(a, b api.Span) bool { return !isSpan(common(a, b)) }

// Blamed returns the glasses without each of which the others agree.
func Blamed(b api.Bulbs, hydro int) ([]int, api.Errno) {
	k, e := bulbOf(b, hydro)
	if e != api.OK {
		return nil, e
	}
	if isSpan(k.errors()) {
		return nil, api.OK
	}
	var ids []int
	for i, g := range k.glasses {
		rest := bulb{Hydro: k.Hydro, glasses: without(k.glasses, i)}
		if isSpan(rest.errors()) {
			ids = append(ids, g.ID)
		}
	}
	slices.Sort(ids)
	return ids, api.OK
}
