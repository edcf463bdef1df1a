package port_test

import (
	"testing"

	"kentledge/api"
	"kentledge/port"
)

// wrong is what makes a setting wrong, and the error that it has then.
type wrong struct {
	name string
	want api.Errno
	make func(s *api.Setting)
}

// wrongs lists what can be wrong in a setting, in the order in which the chapter looks for it.
func wrongs() []wrong {
	return []wrong{
		{"five wharves", api.ErrLimit, func(s *api.Setting) { s.Wharves = []int{0, 0, 1, 1, 2} }},
		{"five ships", api.ErrLimit, func(s *api.Setting) { s.Ships = make([]api.Ship, 5) }},
		{"wharf 0", api.ErrArg, func(s *api.Setting) { s.Wharves = []int{4, 0, 4} }},
		{"wharf twice", api.ErrTwice, func(s *api.Setting) { s.Wharves = []int{4, 5, 4, 0} }},
		{"ship with a hold twice", api.ErrTwice, func(s *api.Setting) { s.Ships[0].Holds[1].ID = 1; s.Ships[1].Light = 0 }},
		{"ship without weight", api.ErrArg, func(s *api.Setting) { s.Ships[1].Light = 0; s.Ships[1].ID = 3 }},
		{"ship twice", api.ErrTwice, func(s *api.Setting) { s.Ships[1].ID = 3 }},
		{"nine hydrometers", api.ErrLimit, func(s *api.Setting) { s.Hydros = make([]api.Hydro, 9) }},
		{"hydrometer 0", api.ErrArg, func(s *api.Setting) { s.Hydros[1].ID = 0 }},
		{"hydrometer twice", api.ErrTwice, func(s *api.Setting) { s.Hydros[1].ID = 1 }},
		{"ten holders", api.ErrLimit, func(s *api.Setting) { s.Holders = make([]api.Holder, 10) }},
		{"holder 0", api.ErrArg, func(s *api.Setting) { s.Holders[2].ID = 0 }},
		{"holder twice", api.ErrTwice, func(s *api.Setting) { s.Holders[2].ID = 1 }},
		{"level", api.ErrArg, func(s *api.Setting) { s.Water.Level = 4001 }},
		{"seven cycles", api.ErrLimit, func(s *api.Setting) { s.Water.Cycles = make([]api.Cycle, 7) }},
		{"cycle without heights", api.ErrArg, func(s *api.Setting) { s.Water.Cycles[1].Heights = nil }},
		{"cycle twice", api.ErrTwice, func(s *api.Setting) { s.Water.Cycles[1].ID = 1 }},
		{"shift", api.ErrArg, func(s *api.Setting) { s.Water.Shifts[0].To = 0 }},
		{"too many editions", api.ErrLimit, func(s *api.Setting) { s.Editions = make([]api.Edition, 21) }},
		{"edition 0", api.ErrArg, func(s *api.Setting) { s.Editions[1].ID = 0 }},
		{"edition twice", api.ErrTwice, func(s *api.Setting) { s.Editions[1].ID = 1 }},
		{"tariff", api.ErrForm, func(s *api.Setting) { s.Editions[1].Tariff.Rules[0].Due = "of" }},
	}
}

// P10.1: the error of each thing that is wrong, and of what is wrong ahead of it if there is more.
func TestCheckSetting(t *testing.T) {
	good(t, port.CheckSetting(api.Setting{}))
	good(t, port.CheckSetting(example()))
	good(t, port.CheckSetting(full()))
	for i, w := range wrongs() {
		s := changed(w.make)
		equal(t, port.CheckSetting(s), w.want, w.name)
		for _, later := range wrongs()[i+1:] {
			both := changed(func(s *api.Setting) { later.make(s) })
			w.make(&both)
			if port.CheckSetting(changed(later.make)) == w.want {
				continue
			}
			equal(t, port.CheckSetting(both), w.want, w.name, later.name)
		}
	}
}

// P10.1: limits.
func TestLimitsOfSettings(t *testing.T) {
	for _, id := range []int{minInt, -1, 0, 1<<40 + 1, maxInt} {
		equal(t, port.CheckSetting(api.Setting{Wharves: []int{id}}), api.ErrArg, id)
		equal(t, port.CheckSetting(api.Setting{Wharves: []int{1, 2, 3, id}}), api.ErrArg, id)
	}
	good(t, port.CheckSetting(api.Setting{Wharves: []int{1, 1 << 40, 7, 3}}))
	equal(t, port.CheckSetting(api.Setting{Wharves: []int{1, 2, 3, 4, 5}}), api.ErrLimit)
	equal(t, port.CheckSetting(api.Setting{Wharves: []int{1, 2, 3, 1}}), api.ErrTwice)
	equal(t, port.CheckSetting(api.Setting{Wharves: []int{1, 2, 2, 0}}), api.ErrTwice)
	good(t, port.CheckSetting(api.Setting{Ships: []api.Ship{brig(1), brig(2), brig(3), brig(4)}}))
	equal(t, port.CheckSetting(api.Setting{Ships: []api.Ship{brig(1), brig(2), brig(3), brig(4), brig(5)}}), api.ErrLimit)
	equal(t, port.CheckSetting(api.Setting{Ships: []api.Ship{brig(1), brig(2), brig(3), brig(1)}}), api.ErrTwice)
	equal(t, port.CheckSetting(api.Setting{Ships: []api.Ship{brig(1), brig(1), {}}}), api.ErrTwice)
	equal(t, port.CheckSetting(api.Setting{Ships: []api.Ship{brig(1), {}, brig(1)}}), api.ErrArg)
}
