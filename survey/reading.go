package survey

import "kentledge/api"

// reading is a valid survey, with the densities of its water.
type reading struct {
	api.Survey
	density api.Span
}

// read returns a survey as a reading. Its errors are those of all functions that are given a survey.
func read(b api.Bulbs, x api.Survey) (reading, api.Errno) {
	if e := CheckBulbs(b); e != api.OK {
		return reading{}, e
	}
	if !isRead(x) {
		return reading{}, api.ErrArg
	}
	off, e := Off(b, x.Hydro)
	if e != api.OK {
		return reading{}, e
	}
	r := reading{Survey: x, density: densityOf(x.Shown, off)}
	if _, _, found := r.ends(); !found || !isSpan(r.density) {
		return reading{}, api.ErrClash
	}
	return r, api.OK
}

// isRead reports whether what was read of a ship is right, each thing for itself.
func isRead(x api.Survey) bool {
	for _, p := range x.Marks {
		if !isSpanIn(p, 0, api.MaxY) || p.Hi-p.Lo+1 > api.MaxWaves {
			return false
		}
	}
	return isID(x.ID) && within(x.Tick, 0, api.MaxTick) && within(x.Sag, 0, api.MaxSag) && isSpanIn(x.Shown, 0, maxShown)
}

// densityOf returns the densities of water in which a hydrometer with some errors showed a span; it is no span if there is none.
func densityOf(shown, off api.Span) api.Span {
	water := api.Span{Lo: api.MinDense, Hi: api.MaxDense}
	return common(water, api.Span{Lo: shown.Lo - off.Hi, Hi: shown.Hi - off.Lo})
}

// Check returns the error of a survey.
func Check(b api.Bulbs, x api.Survey) api.Errno {
	_, e := read(b, x)
	return e
}

// Density returns the densities that the water can have.
func Density(b api.Bulbs, x api.Survey) (api.Span, api.Errno) {
	r, e := read(b, x)
	return r.density, e
}

// sums are those of the draughts fore and aft, and of those amidships.
type sums [2]int

const outer, middle = 0, 1

// part returns of which sum a mark is a part.
func part(mark int) int {
	if mark == 2 || mark == 3 {
		return middle
	}
	return outer
}

func (n sums) sixteen() int { return n[outer] + 6*n[middle] }

// bend returns how far the ship bends, four times.
func (n sums) bend() int { return 2*n[middle] - n[outer] }

// Bends reports whether six draughts can be those of a ship.
func Bends(x api.Survey, marks [6]int) bool {
	var n sums
	for i, p := range x.Marks {
		if !within(marks[i], p.Lo, p.Hi) {
			return false
		}
		n[part(i)] += marks[i]
	}
	return within(n.bend(), -4*x.Sag, 4*x.Sag)
}

// reach returns the sums of the least, and those of the greatest numbers of the marks.
func (r reading) reach() (least, most sums) {
	for i, p := range r.Marks {
		least[part(i)] += p.Lo
		most[part(i)] += p.Hi
	}
	return least, most
}

// ends returns the sums of draughts with the least, and of draughts with the greatest mean, and whether there are draughts.
// What the sum fore and aft can be rises with that amidships: so both are least, and greatest, together.
func (r reading) ends() (low, high sums, found bool) {
	least, most := r.reach()
	low[middle] = max(least[middle], (least[outer]+1)/2-2*r.Sag)
	high[middle] = min(most[middle], most[outer]/2+2*r.Sag)
	if low[middle] > high[middle] {
		return sums{}, sums{}, false
	}
	low[outer] = max(least[outer], 2*low[middle]-4*r.Sag)
	high[outer] = min(most[outer], 2*high[middle]+4*r.Sag)
	return low, high, true
}

// draughts returns draughts with some sums, which the marks can have.
func (r reading) draughts(want sums) [6]int {
	var d [6]int
	missing, _ := r.reach()
	for k := range missing {
		missing[k] = want[k] - missing[k]
	}
	for i, p := range r.Marks {
		more := min(missing[part(i)], p.Hi-p.Lo)
		d[i] = p.Lo + more
		missing[part(i)] -= more
	}
	return d
}

// Sixteen returns sixteen times the mean draught, as a span.
func Sixteen(b api.Bulbs, x api.Survey) (api.Span, api.Errno) {
	r, e := read(b, x)
	if e != api.OK {
		return api.Span{}, e
	}
	low, high, _ := r.ends()
	return api.Span{Lo: low.sixteen(), Hi: high.sixteen()}, api.OK
}

// Ends returns draughts that have the least, and the greatest mean.
func Ends(b api.Bulbs, x api.Survey) (low, high [6]int, e api.Errno) {
	r, e := read(b, x)
	if e != api.OK {
		return low, high, e
	}
	least, most, _ := r.ends()
	return r.draughts(least), r.draughts(most), api.OK
}
