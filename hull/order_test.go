package hull_test

import (
	"slices"
	"testing"

	"kentledge/api"
	"kentledge/hull"
)

// stepsByWords returns what is to be taken out of a hold, step by step.
func stepsByWords(mass, step int) []int {
	var l []int
	for mass > step {
		l = append(l, step)
		mass -= step
	}
	if mass > 0 {
		l = append(l, mass)
	}
	return l
}

// there tells, trying all ways, whether there is an order of the steps that are left with the ship steady behind each one.
func there(s api.Ship, x []int, steps [][]int) bool {
	if !steadyByWords(s, x) {
		return false
	}
	left := 0
	for i, l := range steps {
		left += len(l)
		if len(l) == 0 {
			continue
		}
		y, rest := slices.Clone(x), slices.Clone(steps)
		y[i] -= l[0]
		rest[i] = l[1:]
		if there(s, y, rest) {
			return true
		}
	}
	return left == 0
}

// orderByWords returns what the steps of each hold have to be, and the error.
func orderByWords(s api.Ship, from, to []int, step int) ([][]int, api.Errno) {
	var steps [][]int
	for i := range from {
		steps = append(steps, stepsByWords(from[i]-to[i], step))
	}
	if !steadyByWords(s, from) || !steadyByWords(s, to) {
		return steps, api.ErrState
	}
	if !there(s, from, steps) {
		return steps, api.ErrNone
	}
	return steps, api.OK
}

// perHold returns the masses of drops, hold by hold.
func perHold(holds int, drops []api.Drop) [][]int {
	l := make([][]int, holds)
	for _, d := range drops {
		l[d.Hold] = append(l[d.Hold], d.Mass)
	}
	return l
}

// P3.9
func TestOrderOfTheExample(t *testing.T) {
	drops, e := hull.Order(example(), []int{200, 200}, []int{0, 0}, 100)
	good(t, e)
	equal(t, len(drops), 4)
	x, at, e := hull.CheckOrder(example(), []int{200, 200}, drops)
	sameList(t, x, []int{0, 0})
	equal(t, at, -1)
	equal(t, e, api.OK)
}

// P3.9, P3.15: all ways to order the steps.
func TestOrderByTheWords(t *testing.T) {
	count := map[api.Errno]int{}
	d := &dice{state: 17}
	for range 1500 {
		s := d.ship(3, 60)
		for i := range s.Meta.Knots { // higher and lower ones, so that the order matters
			s.Meta.Knots[i].Y += d.between(0, 99)
		}
		var from, to []int
		for _, h := range s.Holds {
			from, to = append(from, d.between(h.Room/2, h.Room)), append(to, d.between(0, h.Room/2))
		}
		// She is just steady in the one of both in which she is less so: that is where the order matters.
		s.Least = max(0, min(floorOf(stiffByWords(s, from)), floorOf(stiffByWords(s, to)))+d.between(0, 6)/6)
		step := d.between(20, 40)
		steps, want := orderByWords(s, from, to, step)
		drops, e := hull.Order(s, from, to, step)
		equal(t, e, want, s, from, to, step)
		count[e]++
		if e != api.OK {
			equal(t, len(drops), 0, s, from, to, step)
			continue
		}
		for i, l := range perHold(len(s.Holds), drops) {
			sameList(t, l, steps[i], s, from, to, step, drops)
		}
		x, at, e := hull.CheckOrder(s, from, drops)
		sameList(t, x, to, s, from, to, step, drops)
		equal(t, at, -1, s, from, to, step, drops)
		equal(t, e, api.OK, s, from, to, step, drops)
	}
	if count[api.OK] < 200 || count[api.ErrState] < 20 || count[api.ErrNone] < 20 {
		t.Error("too few of a kind", count)
	}
}

// tipping is a ship that is steady only while both holds, one of them low and one high, have about the same.
func tipping() api.Ship {
	s := example()
	s.Holds[0].Height, s.Holds[1].Height = 0, 200
	s.Meta = curveOf(0, 10, 130, 30, 130)
	return s
}

// P3.9: the order matters; a step that is too great leaves none.
func TestOrderThatMatters(t *testing.T) {
	s := tipping()
	drops, e := hull.Order(s, []int{300, 300}, []int{0, 0}, 100)
	good(t, e)
	equal(t, drops[0], api.Drop{Hold: 1, Mass: 100})
	x, at, e := hull.CheckOrder(s, []int{300, 300}, drops)
	sameList(t, x, []int{0, 0})
	equal(t, at, -1)
	equal(t, e, api.OK)
	s.Least++ // steady no longer with as much in both holds
	_, e = hull.Order(s, []int{300, 300}, []int{0, 0}, 100)
	equal(t, e, api.ErrState)
	s = tipping()
	s.Meta = curveOf(0, 10, 130, 13, 0, 17, 0, 20, 130, 30, 130) // not steady between 500 and 700
	_, e = hull.Order(s, []int{300, 300}, []int{0, 0}, 100)
	equal(t, e, api.ErrNone)
	_, e = hull.Order(s, []int{300, 300}, []int{0, 0}, 300)
	equal(t, e, api.ErrNone)
	_, e = hull.Order(s, []int{300, 300}, []int{300, 0}, 300)
	equal(t, e, api.ErrState)
}

// P3.9: no step, one step, steps and a rest.
func TestStepsOfAnOrder(t *testing.T) {
	low := example()
	low.Holds[0].Height, low.Holds[1].Height = 0, 0
	for _, c := range []struct {
		from, to []int
		step     int
		want     [][]int
	}{
		{[]int{0, 0}, []int{0, 0}, 1, [][]int{nil, nil}},
		{[]int{200, 100}, []int{200, 100}, api.MaxMass, [][]int{nil, nil}},
		{[]int{200, 100}, []int{0, 100}, 200, [][]int{{200}, nil}},
		{[]int{200, 100}, []int{0, 100}, 199, [][]int{{199, 1}, nil}},
		{[]int{200, 100}, []int{0, 50}, 201, [][]int{{200}, {50}}},
		{[]int{250, 100}, []int{0, 1}, 100, [][]int{{100, 100, 50}, {99}}},
		{[]int{30, 30}, []int{0, 0}, 1, [][]int{slices.Repeat([]int{1}, 30), slices.Repeat([]int{1}, 30)}},
	} {
		drops, e := hull.Order(low, c.from, c.to, c.step)
		good(t, e, c)
		for i, l := range perHold(2, drops) {
			sameList(t, l, c.want[i], c)
		}
	}
	drops, e := hull.Order(bare(), nil, nil, 1)
	equal(t, len(drops), 0)
	equal(t, e, api.OK)
}

// many is a steady ship with as many holds as can be.
func many() api.Ship {
	s := example()
	s.Holds = nil
	for i := range api.MaxHolds {
		s.Holds = append(s.Holds, api.Hold{ID: i + 1, Room: 8000, Height: i})
	}
	s.Mean, s.Meta = curveOf(0, 0, 0, api.MaxX, 9), curveOf(0, 0, 9000, api.MaxX, 9000)
	return s
}

// P3.9: so many loadings between, and so many steps.
func TestLimitsOfOrders(t *testing.T) {
	s := many()
	for _, c := range []struct {
		from []int
		want api.Errno
	}{
		{[]int{60, 0, 0, 0, 0, 0, 0, 0}, api.OK},
		{[]int{61, 0, 0, 0, 0, 0, 0, 0}, api.ErrLimit},
		{[]int{0, 30, 0, 0, 0, 0, 30, 0}, api.OK},
		{[]int{0, 30, 0, 0, 0, 0, 31, 0}, api.ErrLimit},
		{[]int{4, 3, 0, 9, 0, 9, 0, 0}, api.OK},         // 5 * 4 * 10 * 10 = 2000
		{[]int{2, 22, 28, 0, 0, 0, 0, 0}, api.ErrLimit}, // 3 * 23 * 29 = 2001, and 52 steps
		{[]int{8, 8, 8, 8, 8, 8, 8, 8}, api.ErrLimit},
		{[]int{8000, 8000, 8000, 8000, 8000, 8000, 8000, 8000}, api.ErrLimit},
		{[]int{1, 1, 1, 1, 1, 1, 1, 1}, api.OK},
		{[]int{2, 2, 2, 2, 2, 2, 1, 0}, api.OK},       // 729 * 2 = 1458
		{[]int{2, 2, 2, 2, 2, 2, 2, 0}, api.ErrLimit}, // 2187
	} {
		drops, e := hull.Order(s, c.from, make([]int, api.MaxHolds), 1)
		equal(t, e, c.want, c)
		if e == api.OK {
			equal(t, len(drops), sum(c.from), c)
			x, at, e := hull.CheckOrder(s, c.from, drops)
			sameList(t, x, make([]int, api.MaxHolds), c)
			equal(t, at, -1, c)
			equal(t, e, api.OK, c)
		} else {
			equal(t, len(drops), 0, c)
		}
	}
	// what counts is what is to be taken out, not what is there
	drops, e := hull.Order(s, []int{8000, 7000, 1, 1, 1, 1, 1, 1}, []int{7970, 6970, 1, 1, 1, 1, 1, 1}, 1)
	equal(t, len(drops), 60)
	equal(t, e, api.OK)
	_, e = hull.Order(s, []int{8000, 7000, 1, 1, 1, 1, 1, 1}, []int{7970, 6970, 1, 1, 1, 1, 1, 0}, 1)
	equal(t, e, api.ErrLimit)
	s.Holds[1].Room = 0
	s.Holds[0].Room = 60
	drops, e = hull.Order(s, []int{60, 0, 0, 0, 0, 0, 0, 0}, make([]int, api.MaxHolds), 1)
	equal(t, len(drops), 60)
	equal(t, e, api.OK)
}

// P3.9: the errors in their order. Each call has the error, and all that come behind it.
func TestErrorsOfOrder(t *testing.T) {
	s := example()
	for _, c := range []struct {
		from, to []int
		step     int
		want     api.Errno
	}{
		{[]int{0, 401}, []int{400, 0}, 0, api.ErrArg},
		{[]int{0}, []int{0, 0}, 1, api.ErrArg},
		{[]int{0, 0}, []int{0, 0, 0}, 1, api.ErrArg},
		{[]int{0, 0}, []int{0, -1}, 1, api.ErrArg},
		{[]int{0, 0}, []int{minInt, minInt}, 1, api.ErrArg},
		{nil, nil, 1, api.ErrArg},
		{[]int{0, 400}, []int{1, 0}, 1, api.ErrArg},
		{[]int{400, 0}, []int{0, 1}, 1, api.ErrArg},
		{[]int{0, 400}, []int{0, 0}, 0, api.ErrArg},
		{[]int{0, 400}, []int{0, 0}, -1, api.ErrArg},
		{[]int{0, 0}, []int{0, 0}, api.MaxMass + 1, api.ErrArg},
		{[]int{0, 0}, []int{0, 0}, minInt, api.ErrArg},
		{[]int{0, 0}, []int{0, 0}, maxInt, api.ErrArg},
		{[]int{0, 0}, []int{0, 0}, api.MaxMass, api.OK},
		{[]int{0, 400}, []int{0, 0}, 6, api.ErrLimit},
		{[]int{0, 400}, []int{0, 0}, 100, api.ErrState},
		{[]int{400, 400}, []int{0, 400}, 100, api.ErrState},
		{[]int{0, 400}, []int{0, 400}, 100, api.ErrState},
		{[]int{100, 0}, []int{0, 0}, 100, api.OK},
	} {
		drops, e := hull.Order(s, c.from, c.to, c.step)
		equal(t, e, c.want, c)
		if e != api.OK {
			equal(t, len(drops), 0, c)
		}
	}
}

// P3.9
func TestCheckOrder(t *testing.T) {
	s := example()
	drop := func(hold, mass int) api.Drop { return api.Drop{Hold: hold, Mass: mass} }
	for _, c := range []struct {
		from  []int
		drops []api.Drop
		x     []int
		at    int
		want  api.Errno
	}{
		{[]int{300, 400}, []api.Drop{drop(0, 300), drop(1, 400)}, []int{0, 0}, 0, api.OK},
		{[]int{300, 400}, []api.Drop{drop(1, 1), drop(0, 300), drop(1, 399)}, []int{0, 0}, 1, api.OK},
		{[]int{300, 400}, []api.Drop{drop(1, 200), drop(0, 300)}, []int{0, 200}, -1, api.OK},
		{[]int{300, 400}, []api.Drop{drop(0, 300), drop(1, 1)}, []int{0, 399}, 0, api.OK},
		{[]int{0, 400}, nil, []int{0, 400}, -1, api.OK},
		{[]int{0, 400}, []api.Drop{drop(1, 400)}, []int{0, 0}, -1, api.OK},
		{[]int{0, 317}, []api.Drop{drop(1, 1)}, []int{0, 316}, -1, api.OK},
		{[]int{0, 318}, []api.Drop{drop(1, 1)}, []int{0, 317}, 0, api.OK},
		{[]int{300, 400}, []api.Drop{drop(0, 301)}, nil, 0, api.ErrArg},
		{[]int{300, 400}, []api.Drop{drop(0, 300), drop(0, 1)}, nil, 0, api.ErrArg},
		{[]int{300, 400}, []api.Drop{drop(0, 0)}, nil, 0, api.ErrArg},
		{[]int{300, 400}, []api.Drop{drop(0, -1)}, nil, 0, api.ErrArg},
		{[]int{300, 400}, []api.Drop{drop(0, minInt)}, nil, 0, api.ErrArg},
		{[]int{300, 400}, []api.Drop{drop(0, maxInt)}, nil, 0, api.ErrArg},
		{[]int{300, 400}, []api.Drop{drop(2, 1)}, nil, 0, api.ErrArg},
		{[]int{300, 400}, []api.Drop{drop(-1, 1)}, nil, 0, api.ErrArg},
		{[]int{300, 400}, []api.Drop{drop(api.MaxHolds, 1)}, nil, 0, api.ErrArg},
		{[]int{300, 400}, []api.Drop{drop(maxInt, 1)}, nil, 0, api.ErrArg},
		{[]int{300, 401}, []api.Drop{drop(0, 1)}, nil, 0, api.ErrArg},
		{[]int{400, 0}, slices.Repeat([]api.Drop{drop(0, 1)}, api.MaxDrops), []int{340, 0}, -1, api.OK},
		{[]int{400, 0}, slices.Repeat([]api.Drop{drop(0, 1)}, api.MaxDrops+1), nil, 0, api.ErrLimit},
		{[]int{400, 0}, slices.Repeat([]api.Drop{drop(9, 0)}, api.MaxDrops+1), nil, 0, api.ErrLimit},
		{[]int{401, 0}, slices.Repeat([]api.Drop{drop(9, 0)}, api.MaxDrops+1), nil, 0, api.ErrArg},
	} {
		x, at, e := hull.CheckOrder(s, c.from, c.drops)
		sameList(t, x, c.x, c)
		equal(t, at, c.at, c)
		equal(t, e, c.want, c)
	}
	for _, hold := range []int{api.MaxHolds, api.MaxHolds + 1, -1} {
		_, _, e := hull.CheckOrder(many(), slices.Repeat([]int{1}, api.MaxHolds), []api.Drop{drop(hold, 1)})
		equal(t, e, api.ErrArg, "as many holds as can be, but not that one", hold)
	}
	x, at, e := hull.CheckOrder(bare(), nil, []api.Drop{drop(0, 1)})
	equal(t, len(x), 0)
	equal(t, at, 0)
	equal(t, e, api.ErrArg, "there is no hold")
	_, at, e = hull.CheckOrder(bare(), nil, nil)
	equal(t, at, -1)
	equal(t, e, api.OK)
}

// P3.9: a step that is wrong is told also behind one behind which she is not steady.
func TestWrongStepsBehindUnsteadyOnes(t *testing.T) {
	x, at, e := hull.CheckOrder(example(), []int{300, 400}, []api.Drop{{Hold: 0, Mass: 300}, {Hold: 1, Mass: 400}, {Hold: 1, Mass: 1}})
	equal(t, len(x), 0)
	equal(t, at, 0)
	equal(t, e, api.ErrArg)
}

// P3.9: CheckOrder by the words, for steps of any kind.
func TestCheckOrderByTheWords(t *testing.T) {
	unsteady := 0
	forShips(t, func(d *dice, s api.Ship) {
		var from []int
		for _, h := range s.Holds {
			from = append(from, d.between(0, h.Room))
		}
		left, first := slices.Clone(from), -1
		var drops []api.Drop
		for i := range s.Holds {
			if left[i] == 0 {
				continue
			}
			for _, n := range []int{d.between(1, left[i]), left[i]} {
				if n = min(n, left[i]); n > 0 {
					drops = append(drops, api.Drop{Hold: i, Mass: n})
					left[i] -= n
					if first < 0 && !steadyByWords(s, left) {
						first = len(drops) - 1
						unsteady++
					}
				}
			}
		}
		x, at, e := hull.CheckOrder(s, from, drops)
		sameList(t, x, left, s, from, drops)
		equal(t, at, first, s, from, drops)
		equal(t, e, api.OK, s, from, drops)
	})
	if unsteady < 100 {
		t.Error("too few orders that fail", unsteady)
	}
}
