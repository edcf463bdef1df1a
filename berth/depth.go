package berth

import (
	"iter"
	"slices"
	"sort"

	"kentledge/api"
	"kentledge/tide"
)

func berthOf(h api.Harbour, id int) (api.Berth, bool) {
	return first(slices.Values(h.Berths), func(b api.Berth) bool { return b.ID == id })
}

// checkBerth returns the first error of a harbour and of a berth, or the berth.
func checkBerth(h api.Harbour, id int) (api.Berth, api.Errno) {
	if e := Check(h); e != api.OK {
		return api.Berth{}, e
	}
	b, is := berthOf(h, id)
	if !is {
		return api.Berth{}, api.ErrNone
	}
	return b, api.OK
}

// Depth returns how deep the water is at a berth, in a minute.
func Depth(h api.Harbour, id, tick int) (int, api.Errno) {
	b, e := checkBerth(h, id)
	if e != api.OK {
		return 0, e
	}
	height, e := tide.Height(h.Water, tick)
	if e != api.OK {
		return 0, e
	}
	return b.Depth + height, api.OK
}

// needed returns how high the water must be for a ship to lie clear at a berth.
func needed(h api.Harbour, b api.Berth, draught int) int { return draught + h.Keel - b.Depth }

// Touch returns the first minute in which a ship touches ground at a berth, or lacks room beneath her keel.
func Touch(h api.Harbour, id, draught int, s api.Span) (int, bool, api.Errno) {
	b, e := checkBerth(h, id)
	if e != api.OK {
		return 0, false, e
	}
	if !isDeep(draught) || !isShort(s) {
		return 0, false, api.ErrArg
	}
	height := needed(h, b, draught)
	low, is := first(slices.Values(standsIn(h, s)), func(x api.Stand) bool { return x.Height < height })
	return low.Span.Lo, is, api.OK
}

// standsIn returns the stands of the water of a valid harbour.
func standsIn(h api.Harbour, s api.Span) []api.Stand {
	l, _ := tide.Stands(h.Water, s) // no error: what is asked for is at most as long as a tide
	return l
}

// windows yields, in order, the longest runs of stands in which the water is at least so high.
func windows(stands []api.Stand, height int) iter.Seq[api.Span] {
	return func(yield func(api.Span) bool) {
		for i := 0; i < len(stands); i++ {
			w := stands[i].Span
			low := i
			for low < len(stands) && stands[low].Height >= height {
				w.Hi = stands[low].Span.Hi
				low++
			}
			if low > i && !yield(w) {
				return
			}
			i = low
		}
	}
}

// lies returns the minutes in which a ship lies at a berth in a tide with some stands, and whether there are any.
func lies(h api.Harbour, b api.Berth, stands []api.Stand, c api.Call) (api.Span, bool) {
	isEnough := func(w api.Span) bool { return count(common(w, waiting(c))) >= c.Long }
	w, is := first(windows(stands, needed(h, b, c.Draught)), isEnough)
	if !is {
		return api.Span{}, false
	}
	begin := common(w, waiting(c)).Lo
	return api.Span{Lo: begin, Hi: begin + c.Long - 1}, true
}

// berthIn returns the berth of a slot, and whether it is a slot of the harbour.
func berthIn(h api.Harbour, x api.Slot) (api.Berth, bool) {
	if !within(x.Tide, 0, len(h.Tides)-1) {
		return api.Berth{}, false
	}
	return berthOf(h, x.Berth)
}

// When returns the minutes in which a ship lies in a slot.
func When(h api.Harbour, c api.Call, x api.Slot) (api.Span, bool, api.Errno) {
	if e := Check(h); e != api.OK {
		return api.Span{}, false, e
	}
	if !isCall(c) {
		return api.Span{}, false, api.ErrArg
	}
	b, is := berthIn(h, x)
	if !is {
		return api.Span{}, false, api.ErrNone
	}
	s, is := lies(h, b, standsIn(h, h.Tides[x.Tide]), c)
	return s, is, api.OK
}

// Allow returns the greatest draught with which a ship can lie in a slot for some minutes.
func Allow(h api.Harbour, x api.Slot, long int) (int, api.Errno) {
	if e := Check(h); e != api.OK {
		return 0, e
	}
	b, is := berthIn(h, x)
	if !is {
		return 0, api.ErrNone
	}
	if !isLong(long) {
		return 0, api.ErrArg
	}
	stands := standsIn(h, h.Tides[x.Tide])
	tooDeep := sort.Search(api.MaxDeep+1, func(draught int) bool {
		_, is := lies(h, b, stands, api.Call{Draught: draught, To: api.MaxTick, Long: long})
		return !is
	})
	if tooDeep == 0 {
		return 0, api.ErrNone
	}
	return tooDeep - 1, api.OK
}

// slots yields the slots of a harbour in order, and the berth of each.
func slots(h api.Harbour) iter.Seq2[api.Slot, api.Berth] {
	return func(yield func(api.Slot, api.Berth) bool) {
		for i := range h.Tides {
			for _, b := range h.Berths {
				if !yield(api.Slot{Tide: i, Berth: b.ID}, b) {
					return
				}
			}
		}
	}
}

// taking returns a closure that returns all stays that a ship can have, in the order of their slots. What the water does is found once, for all ships.
func taking(h api.Harbour) func(c api.Call) []api.Stay {
	var tides [][]api.Stand
	for _, s := range h.Tides {
		tides = append(tides, standsIn(h, s))
	}
	return func(c api.Call) []api.Stay {
		var l []api.Stay
		for x, b := range slots(h) {
			if s, is := lies(h, b, tides[x.Tide], c); is {
				l = append(l, api.Stay{Call: c.ID, Slot: x, Span: s})
			}
		}
		return l
	}
}

// Slots returns all slots that a ship can take.
func Slots(h api.Harbour, c api.Call) ([]api.Slot, api.Errno) {
	if e := Check(h); e != api.OK {
		return nil, e
	}
	if !isCall(c) {
		return nil, api.ErrArg
	}
	var l []api.Slot
	for _, s := range taking(h)(c) {
		l = append(l, s.Slot)
	}
	return l, api.OK
}
