package berth

import (
	"cmp"
	"slices"

	"kentledge/api"
)

// place is the index of a lease in its list.
type place int

// placed is a lease that knows where it stood before the leases were sorted.
type placed struct {
	api.Lease
	place
}

// CheckLeases returns the first error of leases.
func CheckLeases(l []api.Lease) api.Errno {
	if len(l) > api.MaxLeases {
		return api.ErrLimit
	}
	return checkEach(l, isLease, func(x api.Lease) int { return x.ID })
}

func isLease(x api.Lease) bool { return isID(x.ID) && isID(x.Heap) && isSpan(x.Span) }

func areAtOnce(a, b api.Lease) bool { return count(common(a.Span, b.Span)) > 0 }

// byBeginning returns leases by the beginning of their spans, equal ones in their order.
func byBeginning(l []api.Lease) []placed {
	var sorted []placed
	for i, x := range l {
		sorted = append(sorted, placed{x, place(i)})
	}
	slices.SortStableFunc(sorted, func(a, b placed) int { return cmp.Compare(a.Span.Lo, b.Span.Lo) })
	return sorted
}

// Lighters returns a lighter for each lease, as few as possible.
func Lighters(l []api.Lease) ([]int, int, api.Errno) {
	if e := CheckLeases(l); e != api.OK {
		return nil, 0, e
	}
	lighters := make([]int, len(l))
	needed := 0
	sorted := byBeginning(l)
	for i, x := range sorted {
		busy := map[int]bool{}
		for _, y := range sorted[:i] {
			if areAtOnce(x.Lease, y.Lease) {
				busy[lighters[y.place]] = true
			}
		}
		lighter := 0
		for busy[lighter] {
			lighter++
		}
		lighters[x.place] = lighter
		needed = max(needed, lighter+1)
	}
	return lighters, needed, api.OK
}

// CheckLighters returns OK if no lighter has two leases at once.
func CheckLighters(l []api.Lease, lighters []int) api.Errno {
	if e := CheckLeases(l); e != api.OK {
		return e
	}
	if len(lighters) != len(l) {
		return api.ErrProof
	}
	for i, x := range l {
		if lighters[i] < 0 {
			return api.ErrProof
		}
		for j, y := range l[:i] {
			if lighters[i] == lighters[j] && areAtOnce(x, y) {
				return api.ErrProof
			}
		}
	}
	return api.OK
}

// Busiest returns the first minute with the most leases, and how many these are.
func Busiest(l []api.Lease) (int, int, api.Errno) {
	if e := CheckLeases(l); e != api.OK {
		return 0, 0, e
	}
	tick, most := 0, 0
	for _, x := range byBeginning(l) { // a lease begins in the first minute with the most
		n := 0
		for _, y := range l {
			if within(x.Span.Lo, y.Span.Lo, y.Span.Hi) {
				n++
			}
		}
		if n > most {
			tick, most = x.Span.Lo, n
		}
	}
	return tick, most, api.OK
}

// Clashes returns the pairs of leases that use one heap at once.
func Clashes(l []api.Lease) ([][2]int, api.Errno) {
	if e := CheckLeases(l); e != api.OK {
		return nil, e
	}
	var pairs [][2]int
	for i, x := range l {
		for _, y := range l[:i] {
			if x.Heap == y.Heap && areAtOnce(x, y) {
				pairs = append(pairs, [2]int{min(x.ID, y.ID), max(x.ID, y.ID)})
			}
		}
	}
	slices.SortFunc(pairs, func(a, b [2]int) int { return slices.Compare(a[:], b[:]) })
	return pairs, api.OK
}

// Queue returns the leases, those of each heap one behind the other.
func Queue(l []api.Lease) ([]api.Lease, api.Errno) {
	if e := CheckLeases(l); e != api.OK {
		return nil, e
	}
	queue := slices.Clone(l)
	free := map[int]int{} // from when on, by the heap
	for _, x := range byBeginning(l) {
		begin := max(x.Span.Lo, free[x.Heap])
		end := begin + count(x.Span) - 1
		if end > api.MaxTick {
			return nil, api.ErrLimit
		}
		queue[x.place].Span = api.Span{Lo: begin, Hi: end}
		free[x.Heap] = end + 1
	}
	return queue, api.OK
}
