package hull_test

import (
	"testing"

	"kentledge/api"
	"kentledge/hull"
)

// changed is the example with something else.
func changed(f func(s *api.Ship)) api.Ship {
	s := example()
	f(&s)
	return s
}

// P3.1
func TestRightShips(t *testing.T) {
	equal(t, hull.Check(example()), api.OK, "the example")
	equal(t, hull.Check(bare()), api.OK, "no hold")
	equal(t, hull.Check(huge()), api.OK, "at the limits")
	for name, f := range map[string]func(s *api.Ship){
		"ID":                   func(s *api.Ship) { s.ID = api.MaxID },
		"levers":               func(s *api.Ship) { s.Lever, s.Holds[0].Lever = api.MaxLever, -api.MaxLever },
		"other levers":         func(s *api.Ship) { s.Lever, s.Holds[0].Lever = -api.MaxLever, api.MaxLever },
		"heights":              func(s *api.Ship) { s.Height, s.Holds[1].Height = api.MaxTall, api.MaxTall },
		"no height":            func(s *api.Ship) { s.Height, s.Holds[1].Height = 0, 0 },
		"turn of 1":            func(s *api.Ship) { s.Turn = 1 },
		"most turn":            func(s *api.Ship) { s.Turn = api.MaxTurn },
		"nothing at least":     func(s *api.Ship) { s.Least = 0 },
		"most at least":        func(s *api.Ship) { s.Least = api.MaxTall },
		"IDs of holds":         func(s *api.Ship) { s.Holds[0].ID, s.Holds[1].ID = api.MaxID, 1 },
		"no room":              func(s *api.Ship) { s.Holds[0].Room, s.Holds[1].Room = 0, 0 },
		"Y of 0":               func(s *api.Ship) { s.Mean.Knots[0].Y, s.Meta.Knots[0].Y, s.Meta.Knots[1].Y = 0, 0, 0 },
		"a longer domain":      func(s *api.Ship) { s.Mean.Knots[0].X, s.Meta.Knots[1].X = 0, api.MaxX },
		"a shorter ship":       func(s *api.Ship) { s.Light, s.Holds[0].Room = 401, 399 },
		"a Meta that rises":    func(s *api.Ship) { s.Meta.Knots[1].Y = 200 },
		"errors of the tables": func(s *api.Ship) { s.Mean.Err, s.Meta.Err = api.MaxErr, api.MaxErr },
	} {
		equal(t, hull.Check(changed(f)), api.OK, name)
	}
}

// P3.1
func TestWrongShips(t *testing.T) {
	for name, f := range map[string]func(s *api.Ship){
		"ID of 0":           func(s *api.Ship) { s.ID = 0 },
		"ID":                func(s *api.Ship) { s.ID = api.MaxID + 1 },
		"light of 0":        func(s *api.Ship) { s.Light = 0 },
		"light":             func(s *api.Ship) { s.Light, s.Holds = api.MaxMass+1, nil },
		"least light":       func(s *api.Ship) { s.Light = minInt },
		"lever":             func(s *api.Ship) { s.Lever = api.MaxLever + 1 },
		"lever aft":         func(s *api.Ship) { s.Lever = -api.MaxLever - 1 },
		"height":            func(s *api.Ship) { s.Height = api.MaxTall + 1 },
		"height below":      func(s *api.Ship) { s.Height = -1 },
		"turn of 0":         func(s *api.Ship) { s.Turn = 0 },
		"turn":              func(s *api.Ship) { s.Turn = api.MaxTurn + 1 },
		"least below":       func(s *api.Ship) { s.Least = -1 },
		"least":             func(s *api.Ship) { s.Least = api.MaxTall + 1 },
		"ID of a hold of 0": func(s *api.Ship) { s.Holds[1].ID = 0 },
		"ID of a hold":      func(s *api.Ship) { s.Holds[1].ID = api.MaxID + 1 },
		"room below":        func(s *api.Ship) { s.Holds[1].Room = -1 },
		"room":              func(s *api.Ship) { s.Holds[1].Room = api.MaxMass + 1 },
		"rooms that wrap":   func(s *api.Ship) { s.Holds[0].Room, s.Holds[1].Room = maxInt, maxInt },
		"hold's lever":      func(s *api.Ship) { s.Holds[1].Lever = api.MaxLever + 1 },
		"hold's lever aft":  func(s *api.Ship) { s.Holds[1].Lever = -api.MaxLever - 1 },
		"hold's height":     func(s *api.Ship) { s.Holds[1].Height = api.MaxTall + 1 },
		"hold below":        func(s *api.Ship) { s.Holds[1].Height = -1 },
		"too heavy in all":  func(s *api.Ship) { s.Holds[0].Room = api.MaxMass - 799 },
		"bad Mean":          func(s *api.Ship) { s.Mean.Err = -1 },
		"no Mean":           func(s *api.Ship) { s.Mean = api.Curve{} },
		"bad Meta":          func(s *api.Ship) { s.Meta.Knots[1].X = 10 },
		"no Meta":           func(s *api.Ship) { s.Meta = api.Curve{} },
		"Mean is level":     func(s *api.Ship) { s.Mean.Knots[1].Y = 100 },
		"Mean falls":        func(s *api.Ship) { s.Mean.Knots[1].Y = 99 },
		"Mean below 0":      func(s *api.Ship) { s.Mean.Knots[0].Y = -1 },
		"Meta begins low":   func(s *api.Ship) { s.Meta.Knots[0].Y = -1 },
		"Meta ends low":     func(s *api.Ship) { s.Meta.Knots[1].Y = -1 },
		"Mean begins late":  func(s *api.Ship) { s.Mean.Knots[0].X = 11 },
		"Mean ends early":   func(s *api.Ship) { s.Mean.Knots[1].X = 29 },
		"Meta begins late":  func(s *api.Ship) { s.Meta.Knots[0].X = 11 },
		"Meta ends early":   func(s *api.Ship) { s.Meta.Knots[1].X = 29 },
		"light for both":    func(s *api.Ship) { s.Light = 399 },
		"heavy for both":    func(s *api.Ship) { s.Holds[1].Room = 401 },
	} {
		equal(t, hull.Check(changed(f)), api.ErrArg, name)
	}
	s := changed(func(s *api.Ship) { s.Light = 0 })
	s.Mean.Knots[0].X, s.Meta.Knots[0].X = 0, 0
	equal(t, hull.Check(s), api.ErrArg, "light of 0, on tables that begin there")
	s.Light = 1
	equal(t, hull.Check(s), api.OK, "light of 1")
	heavy := huge()
	equal(t, heavy.Light+8*8191 < api.MaxMass, true)
	heavy.Light = api.MaxMass - 8*8191
	equal(t, hull.Check(heavy), api.OK, "as heavy as can be")
	heavy.Light++
	equal(t, hull.Check(heavy), api.ErrArg, "too heavy by 1")
}

// P3.1: a knot below 0 counts also beyond what the ship needs, and so does one where Mean does not rise.
func TestKnotsThatAreNotNeeded(t *testing.T) {
	for _, c := range []struct {
		mean, meta api.Curve
		want       api.Errno
	}{
		{curveOf(0, 0, 0, 10, 100, 30, 500, 40, 501), curveOf(0, 9, 0, 10, 160, 30, 140, 31, 0), api.OK},
		{curveOf(0, 0, -1, 10, 100, 30, 500), curveOf(0, 10, 160, 30, 140), api.ErrArg},
		{curveOf(0, 10, 100, 30, 500), curveOf(0, 9, -1, 10, 160, 30, 140), api.ErrArg},
		{curveOf(0, 10, 100, 30, 500), curveOf(0, 10, 160, 30, 140, 31, -1), api.ErrArg},
		{curveOf(0, 10, 100, 30, 500), curveOf(0, 10, 160, 20, -1, 30, 140), api.ErrArg},
		{curveOf(0, 9, 100, 10, 100, 30, 500), curveOf(0, 10, 160, 30, 140), api.ErrArg},
		{curveOf(0, 10, 100, 30, 500, 31, 499), curveOf(0, 10, 160, 30, 140), api.ErrArg},
	} {
		s := example()
		s.Mean, s.Meta = c.mean, c.meta
		equal(t, hull.Check(s), c.want, c)
	}
}

// P3.1: the errors in their order. Each ship has the error, and all that come behind it.
func TestOrderOfErrorsOfShips(t *testing.T) {
	equal(t, hull.Check(broken()), api.ErrArg, "ID")
	for name, f := range map[string]func(s *api.Ship){
		"ID":     func(s *api.Ship) { s.ID = 0 },
		"light":  func(s *api.Ship) { s.Light = 0 },
		"weight": func(s *api.Ship) { s.Light = api.MaxMass + 1 },
		"lever":  func(s *api.Ship) { s.Lever = api.MaxLever + 1 },
		"height": func(s *api.Ship) { s.Height = -1 },
		"turn":   func(s *api.Ship) { s.Turn = 0 },
		"least":  func(s *api.Ship) { s.Least = -1 },
	} {
		s := changed(f)
		s.Holds = make([]api.Hold, api.MaxHolds+1)
		equal(t, hull.Check(s), api.ErrArg, name, "before more holds than can be")
	}
	s := broken()
	s.ID, s.Light, s.Turn = 1, 1, 1
	equal(t, hull.Check(s), api.ErrLimit, "more holds than can be")
	s.Holds = []api.Hold{{ID: 1}, {ID: 1}, {}}
	equal(t, hull.Check(s), api.ErrTwice, "a hold's error before that of the next one")
	s.Holds = []api.Hold{{ID: 1}, {}, {ID: 1}}
	equal(t, hull.Check(s), api.ErrArg, "a hold's error before that of the next one")
	s.Holds = []api.Hold{{ID: 1}, {ID: 1, Room: -1}}
	equal(t, hull.Check(s), api.ErrArg, "ErrArg before ErrTwice")
	long := api.Curve{Knots: make([]api.Knot, api.MaxKnots+1)}
	s.Mean, s.Meta = long, api.Curve{}
	s.Holds = []api.Hold{{ID: 1, Room: api.MaxMass}, {ID: 2}, {ID: 1}}
	equal(t, hull.Check(s), api.ErrTwice, "ErrTwice before the sum")
	s.Holds = s.Holds[:2]
	equal(t, hull.Check(s), api.ErrArg, "the sum before the curves")
	s.Holds[0].Room = 0
	equal(t, hull.Check(s), api.ErrLimit, "Mean before Meta")
	s.Mean, s.Meta = api.Curve{}, long
	equal(t, hull.Check(s), api.ErrArg, "Mean before Meta")
	s.Mean = curveOf(0, 5, -1, 6, -2)
	equal(t, hull.Check(s), api.ErrLimit, "Meta before the rest of Mean")
	s.Meta = curveOf(0, 0, 1)
	equal(t, hull.Check(s), api.ErrArg, "the rest of Mean")
}
