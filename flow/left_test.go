package flow_test

import (
	"math/bits"
	"slices"
	"testing"

	"kentledge/api"
	"kentledge/flow"
)

// hasCourse tells by the words whether a trade with narrow spans has a course.
func hasCourse(x api.Trade) bool { return len(coursesByWords(x)) > 0 }

// isFound tells whether a course is found, in trades whose courses are too many to be gone through.
func isFound(x api.Trade) bool {
	c, e := flow.Find(x)
	return e == api.OK && isCourseByWords(x, c)
}

// idsOut lists the IDs of the movements whose bits are set, in increasing order.
func idsOut(x api.Trade, out int) []int {
	var ids []int
	for i, m := range x.Moves {
		if out>>i&1 == 1 {
			ids = append(ids, m.ID)
		}
	}
	slices.Sort(ids)
	return ids
}

// fewestByWords goes through all choices of movements.
func fewestByWords(x api.Trade, has func(api.Trade) bool) ([]int, api.Errno) {
	var best []int
	found := false
	for out := range 1 << len(x.Moves) {
		if found && bits.OnesCount(uint(out)) > len(best) || !has(withoutByWords(x, out)) {
			continue
		}
		ids := idsOut(x, out)
		if !found || len(ids) < len(best) || slices.Compare(ids, best) < 0 {
			best, found = ids, true
		}
	}
	if !found {
		return nil, api.ErrNone
	}
	return best, api.OK
}

// suspectsByWords leaves out each movement alone.
func suspectsByWords(x api.Trade, has func(api.Trade) bool) []int {
	if has(x) {
		return nil
	}
	var ids []int
	for i, m := range x.Moves {
		if has(withoutByWords(x, 1<<i)) {
			ids = append(ids, m.ID)
		}
	}
	slices.Sort(ids)
	return ids
}

// crowded puts further movements among those of a trade, which may well contradict it.
func (d *dice) crowded(x api.Trade, further int) api.Trade {
	for i := range further * min(1, len(x.Holders)-1) {
		ends := shuffled(d, x.Holders)
		x.Moves = append(x.Moves, move(7*i%31+100, ends[0].ID, ends[1].ID, d.around(d.between(1, 4), 1)))
	}
	x.Moves = shuffled(d, x.Moves)
	return x
}

// P5.7: the chapter's examples.
func TestExamplesOfLeavingOut(t *testing.T) {
	ids, e := flow.Fewest(tooMuch())
	equal(t, e, api.ErrNone)
	isEmpty(t, ids)
	ids, e = flow.Fewest(nine())
	good(t, e)
	sameList(t, ids, []int{9})
	ids, e = flow.Suspects(nine())
	good(t, e)
	sameList(t, ids, []int{9})
}

// P5.7: Without leaves out just the movements with the IDs, and keeps the order.
func TestWithout(t *testing.T) {
	for i, k := range []struct {
		ids  []int
		left []int
	}{
		{nil, []int{7, 8, 9}},
		{[]int{}, []int{7, 8, 9}},
		{[]int{8}, []int{7, 9}},
		{[]int{9, 7}, []int{8}},
		{[]int{7, 7, 40, 7}, []int{8, 9}},
		{[]int{1, 2, 3, 0, -1, minInt, maxInt}, []int{7, 8, 9}},
		{[]int{9, 8, 7, 6}, nil},
	} {
		x, e := flow.Without(nine(), k.ids)
		good(t, e)
		sameList(t, x.Holders, nine().Holders, i)
		var want []api.Move
		for _, id := range k.left {
			want = append(want, nine().Moves[id-7])
		}
		sameList(t, x.Moves, want, i)
	}
	forTrades(many(), 100, func(d *dice, x api.Trade) {
		out := d.between(0, 1<<len(x.Moves)-1)
		got, e := flow.Without(x, shuffled(d, idsOut(x, out)))
		good(t, e)
		sameTrade(t, got, withoutByWords(x, out), x, out)
	})
}

// P5.7, P5.17: of small trades, the fewest movements and the suspects are those of all choices.
func TestFewestAndSuspectsOfSmallTrades(t *testing.T) {
	met := map[int]int{}
	suspected := map[int]int{}
	forTrades(few(), 2500, func(d *dice, x api.Trade) {
		x = d.crowded(x, d.between(0, 3))
		want, f := fewestByWords(x, hasCourse)
		ids, e := flow.Fewest(x)
		equal(t, e, f, x)
		sameList(t, ids, want, x)
		met[len(want)-int(f)]++
		list := suspectsByWords(x, hasCourse)
		ids, e = flow.Suspects(x)
		good(t, e, x)
		sameList(t, ids, list, x)
		suspected[len(list)]++
	})
	enough(t, met, 50, 0, 1, 2, 3, -int(api.ErrNone))
	enough(t, suspected, 20, 0, 1, 2, 3)
}

// P5.7: of trades with up to ten movements, too.
func TestFewestOfTenMovements(t *testing.T) {
	met := map[int]int{}
	d := &dice{state: 57}
	for range 150 {
		x, _ := d.trade(bounds{holders: 5, moves: 6, mass: 9, wide: 1})
		x = d.crowded(x, api.MaxWithdrawn-len(x.Moves))
		want, f := fewestByWords(x, isFound)
		ids, e := flow.Fewest(x)
		equal(t, e, f, x)
		sameList(t, ids, want, x)
		met[len(want)]++
	}
	enough(t, met, 5, 1, 2, 3, 4)
}

// P5.7: of as few movements the least list, number by number: 2 and 10 before 3 and 4.
func TestFewestIsTheLeastList(t *testing.T) {
	x := api.Trade{Holders: []api.Holder{holder(1, at(0), at(0), 0), holder(2, at(0), at(0), 0), holder(3, at(0), at(0), 0)}}
	for _, m := range []struct{ id, from, to int }{{10, 1, 2}, {4, 2, 3}, {3, 1, 2}, {2, 2, 3}} {
		x.Moves = append(x.Moves, move(m.id, m.from, m.to, at(5)))
	}
	x.Holders[0].Start, x.Holders[2].End = at(5), at(5)
	ids, e := flow.Fewest(x) // one from 1 to 2, and one from 2 to 3
	good(t, e)
	sameList(t, ids, []int{2, 3})
	x.Holders = append(x.Holders, holder(4, at(0), at(0), 0))
	x.Moves[2].From, x.Moves[2].To = 4, 1 // so that 3 must be left out, and 2 or 4
	ids, e = flow.Fewest(x)
	good(t, e)
	sameList(t, ids, []int{2, 3})
	x.Moves[2].ID, x.Moves[3].ID = 11, 10
	x.Moves[0].ID = 7
	ids, e = flow.Fewest(x) // 11, and 4 or 10
	good(t, e)
	sameList(t, ids, []int{4, 11})
	x.Moves[1].ID = 40
	ids, e = flow.Fewest(x)
	good(t, e)
	sameList(t, ids, []int{10, 11})
}

// P5.7: none of them can be enough: there is a course with all, and none without all of them.
func TestFewestOfTradesWithCourse(t *testing.T) {
	ids, e := flow.Fewest(example())
	good(t, e)
	isEmpty(t, ids)
	equal(t, hasCourse(withoutByWords(example(), 3)), false)
	ids, e = flow.Suspects(example())
	good(t, e)
	isEmpty(t, ids)
	for _, x := range []api.Trade{{}, {Holders: []api.Holder{{ID: 1}}}} {
		ids, e = flow.Fewest(x)
		good(t, e)
		isEmpty(t, ids)
		ids, e = flow.Suspects(x)
		good(t, e)
		isEmpty(t, ids)
	}
	alone := api.Trade{Holders: []api.Holder{holder(1, at(1), at(0), 0)}}
	ids, e = flow.Fewest(alone)
	equal(t, e, api.ErrNone)
	isEmpty(t, ids)
	ids, e = flow.Suspects(alone)
	good(t, e)
	isEmpty(t, ids)
}

// loose is a trade with so many movements between two holders; without any one of the first its course stays.
func loose(moves, lo int) api.Trade {
	x := api.Trade{Holders: []api.Holder{holder(1, span(0, 9), span(0, 9), 0), holder(2, span(0, 9), span(0, 9), 0)}}
	for i := range moves {
		x.Moves = append(x.Moves, move(50-i, 1, 2, span(lo, 9)))
	}
	return x
}

// P5.7: the limit of Fewest is ten movements; it comes before ErrNone, and also where there is a course.
func TestLimitOfFewest(t *testing.T) {
	for _, lo := range []int{0, 1, 9} {
		ids, e := flow.Fewest(loose(10, lo))
		good(t, e)
		sameList(t, ids, [][]int{nil, {41}, {41, 42, 43, 44, 45, 46, 47, 48, 49}}[min(lo, 2)], lo)
		ids, e = flow.Fewest(loose(11, lo))
		equal(t, e, api.ErrLimit, lo)
		isEmpty(t, ids)
		ids, e = flow.Suspects(loose(11, lo))
		good(t, e)
		isEmpty(t, ids)
	}
	ids, e := flow.Suspects(loose(24, 0))
	good(t, e)
	isEmpty(t, ids)
	ids, e = flow.Suspects(loose(10, 1))
	good(t, e)
	sameList(t, ids, []int{41, 42, 43, 44, 45, 46, 47, 48, 49, 50})
	for _, moves := range []int{10, 11} {
		x := loose(moves, 0)
		x.Holders[0].End, x.Holders[0].Start = at(10), at(0)
		ids, e := flow.Fewest(x)
		equal(t, e, []api.Errno{api.ErrNone, api.ErrLimit}[moves-10], moves)
		isEmpty(t, ids)
	}
}

// restsByWords leaves out each movement, but for the one that is looked at.
func restsByWords(x api.Trade, a api.At, limits func(x api.Trade) (api.Span, bool)) []int {
	all, _ := limits(x)
	var ids []int
	for i, m := range x.Moves {
		if a.Kind == api.AtMass && a.ID == m.ID {
			continue
		}
		if s, is := limits(withoutByWords(x, 1<<i)); !is || s != all {
			ids = append(ids, m.ID)
		}
	}
	slices.Sort(ids)
	return ids
}

// P5.8: of small trades, Rests are the movements without each of which there are other limits, or none.
func TestRestsOfSmallTrades(t *testing.T) {
	met := map[int]int{}
	forTrades(few(), 500, func(d *dice, x api.Trade) {
		x.Moves = shuffled(d, x.Moves)
		if !hasCourse(x) {
			return
		}
		for _, a := range all(x) {
			want := restsByWords(x, a, func(x api.Trade) (api.Span, bool) {
				courses := coursesByWords(x)
				if len(courses) == 0 {
					return api.Span{}, false
				}
				return limitsByWords(x, courses, a), true
			})
			ids, e := flow.Rests(x, a)
			good(t, e, x, a)
			sameList(t, ids, want, x, a)
			met[len(want)]++
		}
	})
	enough(t, met, 50, 0, 1, 2, 3)
}

// P5.8: of large ones, too.
func TestRestsOfLargeTrades(t *testing.T) {
	met := map[bool]int{}
	forTrades(many(), 60, func(d *dice, x api.Trade) {
		if !isFound(x) {
			return
		}
		list := all(x)
		for range 5 {
			a := list[d.between(0, len(list)-1)]
			want := restsByWords(x, a, func(x api.Trade) (api.Span, bool) {
				if !isFound(x) {
					return api.Span{}, false
				}
				return values(t, x, a), true
			})
			ids, e := flow.Rests(x, a)
			good(t, e, x, a)
			sameList(t, ids, want, x, a)
			met[len(want) > 0]++
		}
	})
	enough(t, met, 10, true, false)
}

// P5.8: the movement that something is does not count; a movement with the ID of a holder does.
func TestRestsOfMovementsAndHolders(t *testing.T) {
	x := api.Trade{
		Holders: []api.Holder{holder(1, at(9), span(0, 9), 0), holder(2, at(0), span(0, 9), 0)},
		Moves:   []api.Move{move(3, 2, 1, at(0)), move(2, 1, 2, span(4, 9)), move(1, 1, 2, span(2, 3))},
	}
	for a, want := range map[api.At][]int{
		massOf(1): {}, massOf(2): {1}, massOf(3): {},
		startOf(1): {}, startOf(2): {},
		endOf(1): {1, 2}, endOf(2): {1, 2},
	} {
		ids, e := flow.Rests(x, a)
		good(t, e, a)
		sameList(t, ids, want, a)
	}
}

// P5.8: a movement without which there is no course is one of them, also where all limits are 0.
func TestRestsWithoutCourse(t *testing.T) {
	x := api.Trade{
		Holders: []api.Holder{holder(1, at(5), at(0), 0), holder(2, at(0), at(5), 0), holder(3, at(0), at(0), 0)},
		Moves:   []api.Move{move(4, 1, 2, at(5)), move(5, 2, 3, at(0))},
	}
	for _, a := range []api.At{startOf(3), endOf(3), massOf(5)} {
		ids, e := flow.Rests(x, a)
		good(t, e, a)
		sameList(t, ids, []int{4}, a)
	}
}
