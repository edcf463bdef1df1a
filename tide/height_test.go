package tide_test

import (
	"slices"
	"testing"

	"kentledge/api"
	"kentledge/tide"
)

// wrongCycles are cycles each of which is wrong in one way.
func wrongCycles() map[string]api.Cycle {
	return map[string]api.Cycle{
		"nothing":         {},
		"ID 0":            cycle(0, 10, 5, 1),
		"ID below":        cycle(minInt, 10, 5, 1),
		"ID above":        cycle(api.MaxID+1, 10, 5, 1),
		"Begin below":     cycle(7, -1, 5, 1),
		"Begin far below": cycle(7, minInt, 5, 1),
		"Begin above":     cycle(7, api.MaxTick+1, 5, 1),
		"Begin far above": cycle(7, maxInt, 5, 1),
		"Every 0":         cycle(7, 10, 0, 1),
		"Every below":     cycle(7, 10, -5, 1),
		"Every above":     cycle(7, 10, api.MaxEvery+1, 1),
		"no height":       cycle(7, 10, 5),
		"a height more":   cycle(7, 10, 5, make([]int, api.MaxTable+1)...),
		"height below":    cycle(7, 10, 5, 0, -api.MaxTide-1),
		"height above":    cycle(7, 10, 5, api.MaxTide+1, 0),
		"height far off":  cycle(7, 10, 5, 0, minInt, 0),
	}
}

// boundCycles are right cycles at the limits.
func boundCycles() []api.Cycle {
	return []api.Cycle{
		cycle(1, 0, 1, 0),
		cycle(api.MaxID, api.MaxTick, api.MaxEvery, slices.Repeat([]int{-api.MaxTide, api.MaxTide}, api.MaxTable/2)...),
	}
}

// P2.1
func TestCheckCycles(t *testing.T) {
	equal(t, tide.Check(api.Water{}), api.OK)
	equal(t, tide.Check(example()), api.OK)
	for name, c := range wrongCycles() {
		equal(t, tide.Check(api.Water{Cycles: []api.Cycle{c}}), api.ErrArg, name)
		equal(t, tide.Check(api.Water{Cycles: []api.Cycle{one(), two(), c}}), api.ErrArg, name)
	}
	for _, c := range boundCycles() {
		equal(t, tide.Check(api.Water{Cycles: []api.Cycle{c}}), api.OK, c)
	}
	var l []api.Cycle
	for id := range api.MaxCycles {
		l = append(l, cycle(id+1, 0, 1, 0))
	}
	equal(t, tide.Check(api.Water{Cycles: l}), api.OK)
	equal(t, tide.Check(api.Water{Cycles: append(l, cycle(9, 0, 1, 0))}), api.ErrLimit)
	for i := range l {
		twice := slices.Concat(l[:5], []api.Cycle{cycle(l[i].ID, 3, 4, 5, 6)})
		want := api.ErrTwice
		if i == 5 {
			want = api.OK
		}
		equal(t, tide.Check(api.Water{Cycles: twice}), want, i)
	}
}

// P2.1
func TestCheckLevelAndShifts(t *testing.T) {
	for level, want := range map[int]api.Errno{4000: api.OK, -4000: api.OK, 4001: api.ErrArg, -4001: api.ErrArg, minInt: api.ErrArg, maxInt: api.ErrArg} {
		equal(t, tide.Check(api.Water{Level: level}), want, level)
	}
	for _, c := range []struct {
		name string
		l    []api.Shift
		want api.Errno
	}{
		{"the first day", []api.Shift{{From: 0, To: 0, Add: 4000}}, api.OK},
		{"the last day", []api.Shift{{From: lastDay, To: lastDay, Add: -4000}}, api.OK},
		{"all days", []api.Shift{{From: 0, To: 728, Add: 1}}, api.OK},
		{"days that meet", []api.Shift{{From: 0, To: 3, Add: 1}, {From: 4, To: 4, Add: 2}, {From: 5, To: 9}}, api.OK},
		{"a day between", []api.Shift{{From: 0, To: 3}, {From: 5, To: 6}}, api.OK},
		{"a day twice", []api.Shift{{From: 0, To: 3}, {From: 3, To: 4}}, api.ErrArg},
		{"one in another", []api.Shift{{From: 0, To: 9}, {From: 3, To: 4}}, api.ErrArg},
		{"out of order", []api.Shift{{From: 5, To: 6}, {From: 3, To: 4}}, api.ErrArg},
		{"the third one", []api.Shift{{From: 1, To: 1}, {From: 3, To: 4}, {From: 4, To: 4}}, api.ErrArg},
		{"From below", []api.Shift{{From: -1, To: 0}}, api.ErrArg},
		{"From far below", []api.Shift{{From: minInt, To: 0}}, api.ErrArg},
		{"To below From", []api.Shift{{From: 2, To: 1}}, api.ErrArg},
		{"To above", []api.Shift{{From: 2, To: lastDay + 1}}, api.ErrArg},
		{"To far above", []api.Shift{{From: 2, To: maxInt}}, api.ErrArg},
		{"both above", []api.Shift{{From: lastDay + 1, To: lastDay + 1}}, api.ErrArg},
		{"Add below", []api.Shift{{From: 2, To: 3, Add: -4001}}, api.ErrArg},
		{"Add above", []api.Shift{{From: 2, To: 3, Add: 4001}}, api.ErrArg},
		{"Add far below", []api.Shift{{From: 2, To: 3, Add: minInt}}, api.ErrArg},
	} {
		equal(t, tide.Check(api.Water{Shifts: c.l}), c.want, c.name)
	}
	var l []api.Shift
	for day := range api.MaxShifts {
		l = append(l, api.Shift{From: day, To: day})
	}
	equal(t, tide.Check(api.Water{Shifts: l}), api.OK)
	equal(t, tide.Check(api.Water{Shifts: append(l, api.Shift{From: 99, To: 99})}), api.ErrLimit)
}

// P2.1, R3: level, numbers, cycles one by one, shifts.
func TestCheckOrder(t *testing.T) {
	wrong, shift := cycle(1, -1, 5, 1), []api.Shift{{From: 2, To: 1}}
	fine := []api.Shift{{From: 1, To: 1}}
	for _, c := range []struct {
		name string
		w    api.Water
		want api.Errno
	}{
		{"level before numbers", api.Water{Level: 4001, Cycles: make([]api.Cycle, 7)}, api.ErrArg},
		{"level before shifts' number", api.Water{Level: -4001, Shifts: make([]api.Shift, 21)}, api.ErrArg},
		{"shifts' number before cycles", api.Water{Cycles: []api.Cycle{{}}, Shifts: make([]api.Shift, 21)}, api.ErrLimit},
		{"cycles' number before shifts", api.Water{Cycles: make([]api.Cycle, 7), Shifts: shift}, api.ErrLimit},
		{"wrong before twice, of one cycle", api.Water{Cycles: []api.Cycle{one(), wrong}}, api.ErrArg},
		{"twice before the next one", api.Water{Cycles: []api.Cycle{one(), one(), {}}}, api.ErrTwice},
		{"wrong before the next one", api.Water{Cycles: []api.Cycle{one(), {}, one()}}, api.ErrArg},
		{"twice before shifts", api.Water{Cycles: []api.Cycle{one(), two(), one()}, Shifts: shift}, api.ErrTwice},
		{"shifts last", api.Water{Cycles: []api.Cycle{one(), two()}, Shifts: shift}, api.ErrArg},
		{"none", api.Water{Cycles: []api.Cycle{one(), two()}, Shifts: fine}, api.OK},
	} {
		equal(t, tide.Check(c.w), c.want, c.name)
	}
}

// P2.2
func TestValue(t *testing.T) {
	for tick, want := range map[int]int{10: 0, 14: 0, 15: 30, 19: 30, 20: 20, 24: 20, 25: 0, 9: 20, 5: 20, 4: 30, 0: 30, api.MaxTick: 30} {
		v, e := tide.Value(one(), tick)
		equal(t, v, want, tick)
		equal(t, e, api.OK, tick)
	}
	late := cycle(1, api.MaxTick, 7, 1, 2, 3)
	for tick, want := range map[int]int{api.MaxTick: 1, api.MaxTick - 1: 3, api.MaxTick - 7: 3, api.MaxTick - 8: 2, 0: valueByWords(late, 0)} {
		equal(t, value(t, late, tick), want, tick)
	}
	single := cycle(1, 50, 120, -9)
	for _, tick := range []int{0, 49, 50, 169, 170, api.MaxTick} {
		equal(t, value(t, single, tick), -9, tick)
	}
	for _, c := range boundCycles() {
		equal(t, value(t, c, 0), valueByWords(c, 0), c)
		equal(t, value(t, c, api.MaxTick), valueByWords(c, api.MaxTick), c)
	}
	for _, tick := range []int{-1, api.MaxTick + 1, minInt, maxInt} {
		v, e := tide.Value(one(), tick)
		equal(t, v, 0, tick)
		equal(t, e, api.ErrArg, tick)
	}
	for name, c := range wrongCycles() {
		for _, tick := range []int{0, 12, -1} {
			v, e := tide.Value(c, tick)
			equal(t, v, 0, name)
			equal(t, e, api.ErrArg, name)
		}
	}
}

// P2.2
func TestHeight(t *testing.T) {
	for tick, want := range map[int]int{0: 131, 12: 102, 1439: 102, 1440: 138, 2879: 109, 2880: 131} {
		h, e := tide.Height(example(), tick)
		equal(t, h, want, tick)
		equal(t, e, api.OK, tick)
	}
	for _, tick := range []int{-1, api.MaxTick + 1, minInt, maxInt} {
		h, e := tide.Height(example(), tick)
		equal(t, h, 0, tick)
		equal(t, e, api.ErrArg, tick)
	}
	h, e := tide.Height(api.Water{Level: -7}, api.MaxTick)
	equal(t, h, -7)
	equal(t, e, api.OK)
	top := api.Water{Level: api.MaxTide, Shifts: []api.Shift{{From: lastDay, To: lastDay, Add: api.MaxTide}}}
	for id := range api.MaxCycles {
		top.Cycles = append(top.Cycles, cycle(id+1, 0, 1, api.MaxTide))
	}
	h, e = tide.Height(top, api.MaxTick)
	equal(t, h, 8*api.MaxTide)
	equal(t, e, api.OK)
}

// P2.2: shifts that meet, with a gap behind them, minute by minute at each end.
func TestHeightByDays(t *testing.T) {
	w := api.Water{Shifts: []api.Shift{{From: 0, To: 1, Add: 3}, {From: 2, To: 2, Add: -4}, {From: 4, To: lastDay, Add: 5}}}
	for day, want := range map[int]int{0: 3, 1: 3, 2: -4, 3: 0, 4: 5, 5: 5, lastDay - 1: 5} {
		for _, tick := range []int{day * api.DayTick, day*api.DayTick + 1, (day+1)*api.DayTick - 1} {
			h, e := tide.Height(w, tick)
			equal(t, h, want, tick)
			equal(t, e, api.OK, tick)
		}
	}
	h, _ := tide.Height(w, api.MaxTick)
	equal(t, h, 5)
}

// P2.2: Value and Height are what the chapter's words say.
func TestHeightEverywhere(t *testing.T) {
	forWaters(t, func(d *dice, w api.Water, s api.Span) {
		for tick := s.Lo; tick <= s.Hi; tick++ {
			h, e := tide.Height(w, tick)
			good(t, e, w, tick)
			equal(t, h, heightByWords(w, tick), w, tick)
			for _, c := range w.Cycles {
				equal(t, value(t, c, tick), valueByWords(c, tick), c, tick)
			}
		}
	})
}
