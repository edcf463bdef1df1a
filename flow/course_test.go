package flow_test

import (
	"slices"
	"testing"

	"kentledge/api"
	"kentledge/flow"
)

// P5.2, P5.3: the chapter's examples.
func TestExamplesOfCourses(t *testing.T) {
	c, e := flow.Find(example())
	good(t, e)
	equal(t, isCourseByWords(example(), c), true, c)
	cut, is, e := flow.Contradiction(example())
	good(t, e)
	equal(t, is, false)
	equal(t, isZeroCut(cut), true, cut)
	for _, x := range []struct {
		cut  api.Cut
		want int
	}{{cutOut(3), -5}, {cutOut(2, 3), 5}} {
		n, e := flow.Through(tooMuch(), x.cut)
		good(t, e)
		equal(t, n, x.want, x.cut)
	}
	for _, x := range []api.Trade{tooMuch(), nine()} {
		_, e := flow.Find(x)
		equal(t, e, api.ErrClash)
		cut, is, e := flow.Contradiction(x)
		good(t, e)
		equal(t, is, true)
		equal(t, contradictsByWords(x, cut), true, cut)
	}
}

// P5.2, P5.3, P5.11: of small trades, a course is found exactly if there is one, and otherwise a cut.
func TestCoursesOfSmallTrades(t *testing.T) {
	met := map[bool]int{}
	forTrades(few(), 1500, func(d *dice, x api.Trade) {
		has := len(coursesByWords(x)) > 0
		met[has]++
		c, e := flow.Find(x)
		cut, is, f := flow.Contradiction(x)
		good(t, f, x)
		equal(t, is, !has, x)
		if has {
			good(t, e, x)
			equal(t, isCourseByWords(x, c), true, x, c)
			equal(t, flow.CheckCourse(x, c), api.OK, x, c)
			equal(t, isZeroCut(cut), true, x, cut)
		} else {
			equal(t, e, api.ErrClash, x)
			equal(t, isZeroCourse(c), true, x, c)
			equal(t, contradictsByWords(x, cut), true, x, cut)
			equal(t, flow.CheckCut(x, cut), api.OK, x, cut)
		}
	})
	enough(t, met, 300, true, false)
}

// P5.2, P5.3, P5.11: of large trades, what is found is a course, or a cut that contradicts.
func TestCoursesOfLargeTrades(t *testing.T) {
	met := map[bool]int{}
	forTrades(many(), 1500, func(d *dice, x api.Trade) {
		c, e := flow.Find(x)
		cut, is, f := flow.Contradiction(x)
		good(t, f, x)
		equal(t, is, e == api.ErrClash, x)
		met[is]++
		if is {
			equal(t, contradictsByWords(x, cut), true, x, cut)
			equal(t, flow.CheckCut(x, cut), api.OK, x, cut)
			equal(t, isZeroCourse(c), true, x, c)
		} else {
			good(t, e, x)
			equal(t, isCourseByWords(x, c), true, x, c)
			equal(t, flow.CheckCourse(x, c), api.OK, x, c)
			equal(t, isZeroCut(cut), true, x, cut)
		}
	})
	enough(t, met, 300, true, false)
}

// P5.2, P5.3: without holders there is a course, and no cut; without movements it depends on each holder alone.
func TestCoursesWithoutMovements(t *testing.T) {
	c, e := flow.Find(api.Trade{})
	good(t, e)
	equal(t, isZeroCourse(c), true, c)
	equal(t, flow.CheckCourse(api.Trade{}, c), api.OK)
	equal(t, flow.CheckCourse(api.Trade{}, api.Course{Mass: []int{0}}), api.ErrProof)
	_, is, e := flow.Contradiction(api.Trade{})
	good(t, e)
	equal(t, is, false)
	for _, cut := range []api.Cut{{}, cutOut(), cutIn(), cutOut(1), cutOut(0)} {
		equal(t, flow.CheckCut(api.Trade{}, cut), api.ErrProof, cut)
	}
	for _, x := range []struct {
		start, end api.Span
		want       api.Cut
	}{
		{at(5), at(5), api.Cut{}},
		{span(3, 5), span(5, 7), api.Cut{}},
		{span(5, 7), span(3, 5), api.Cut{}},
		{span(3, 5), span(6, 7), cutOut(4)},
		{span(6, 7), span(3, 5), cutIn(4)},
		{at(0), at(api.MaxMass), cutOut(4)},
		{at(api.MaxMass), at(0), cutIn(4)},
		{at(api.MaxMass), at(api.MaxMass), api.Cut{}},
	} {
		alone := api.Trade{Holders: []api.Holder{holder(4, x.start, x.end, 0)}}
		cut, is, e := flow.Contradiction(alone)
		good(t, e)
		equal(t, is, x.want.Way != 0, x)
		equal(t, cut.Way, x.want.Way, x)
		sameList(t, cut.Holders, x.want.Holders, x)
		_, e = flow.Find(alone)
		equal(t, e == api.ErrClash, is, x)
	}
}

// P5.2: when the movements were made does not matter: a lighter can drop what it gets only later, and masses can go round.
func TestMovementsHaveNoOrder(t *testing.T) {
	x := api.Trade{
		Holders: []api.Holder{holder(1, at(0), at(0), 0), holder(2, at(0), at(0), 0)},
		Moves:   []api.Move{move(1, 1, 2, at(9)), move(2, 2, 1, span(0, 9))},
	}
	c, e := flow.Find(x)
	good(t, e)
	sameList(t, c.Mass, []int{9, 9})
	x.Moves[1].Mass.Hi = 8
	_, e = flow.Find(x)
	equal(t, e, api.ErrClash)
}

// near yields a course with each of its numbers a little greater or less, and lists that are too short or too long.
func near(c api.Course, yield func(d api.Course)) {
	lists := func(c *api.Course) [3]*[]int { return [3]*[]int{&c.Start, &c.End, &c.Mass} }
	fresh := func() api.Course {
		return api.Course{Start: slices.Clone(c.Start), End: slices.Clone(c.End), Mass: slices.Clone(c.Mass)}
	}
	for k := range 3 {
		for i := range *lists(&c)[k] {
			for _, by := range []int{-1, 1} {
				d := fresh()
				(*lists(&d)[k])[i] += by
				yield(d)
			}
		}
		d := fresh()
		*lists(&d)[k] = append(*lists(&d)[k], 0)
		yield(d)
		if l := lists(&c)[k]; len(*l) > 0 {
			d := fresh()
			*lists(&d)[k] = (*l)[:len(*l)-1]
			yield(d)
		}
	}
}

// P5.2: CheckCourse accepts just what is a course, by the words.
func TestCheckCourse(t *testing.T) {
	met := map[api.Errno]int{}
	check := func(x api.Trade, c api.Course) {
		want := api.ErrProof
		if isCourseByWords(x, c) {
			want = api.OK
		}
		met[want]++
		equal(t, flow.CheckCourse(x, c), want, x, c)
	}
	d := &dice{state: 52}
	for i := range 300 {
		b := [2]bounds{few(), many()}[i%2]
		x, c := d.trade(b)
		check(x, c)
		near(c, func(n api.Course) { check(x, n) })
		check(d.spoiled(x, b, 1), c)
		for j := range c.Mass { // both ends go along
			n := api.Course{Start: slices.Clone(c.Start), End: slices.Clone(c.End), Mass: slices.Clone(c.Mass)}
			n.Mass[j] += d.between(-2, 2)
			for k := range n.End {
				n.End[k] = endByWords(x, n, k)
			}
			check(x, n)
		}
	}
	enough(t, met, 500, api.OK, api.ErrProof)
}

// P5.2: the ends of each span are still in it, and nothing beyond them.
func TestCheckCourseAtTheEndsOfSpans(t *testing.T) {
	x := api.Trade{
		Holders: []api.Holder{holder(1, span(10, 20), span(5, 15), 0), holder(2, span(0, 30), span(0, 30), 0)},
		Moves:   []api.Move{move(1, 1, 2, span(3, 7))},
	}
	for start := 8; start <= 22; start++ {
		for mass := 1; mass <= 9; mass++ {
			c := api.Course{Start: []int{start, 9}, End: []int{start - mass, 9 + mass}, Mass: []int{mass}}
			want := api.ErrProof
			if in(start, span(10, 20)) && in(start-mass, span(5, 15)) && in(mass, span(3, 7)) {
				want = api.OK
			}
			equal(t, flow.CheckCourse(x, c), want, c)
		}
	}
}

// P5.2, R8: numbers whose sum wraps around are no course.
func TestCheckCourseOfHugeNumbers(t *testing.T) {
	x := example()
	for _, c := range []api.Course{
		{Start: []int{maxInt, 0, 10}, End: []int{minInt, 0, 50}, Mass: []int{-1, 40}},
		{Start: []int{100, 0, 10}, End: []int{60, minInt, 50}, Mass: []int{40, 40}},
		{Start: []int{100, minInt, 10}, End: []int{60, minInt, 50}, Mass: []int{40, 40}},
		{Start: []int{100, 0, 10}, End: []int{100 - maxInt, 0, maxInt + 10 - maxInt}, Mass: []int{maxInt, maxInt}},
		{Start: []int{100, 0, 10}, End: []int{60, 0, 50}, Mass: []int{minInt, minInt}},
	} {
		equal(t, flow.CheckCourse(x, c), api.ErrProof, c)
	}
}

// P5.3: what goes through each cut that is formed.
func TestThrough(t *testing.T) {
	met := map[api.Errno]int{}
	d := &dice{state: 53}
	for i := range 200 {
		b := [2]bounds{few(), many()}[i%2]
		x, _ := d.trade(b)
		x = d.spoiled(x, b, i%5)
		for c := range cutsByWords(x) {
			n, e := flow.Through(x, c)
			good(t, e, x, c)
			equal(t, n, throughByWords(x, c), x, c)
			want := api.ErrProof
			if n > 0 {
				want = api.OK
			}
			met[want]++
			equal(t, flow.CheckCut(x, c), want, x, c)
		}
	}
	enough(t, met, 100, api.OK, api.ErrProof)
}

// P5.3: 0 contradicts nothing, 1 does.
func TestCutsJustContradict(t *testing.T) {
	for by, want := range []api.Errno{api.ErrProof, api.OK} {
		x := api.Trade{
			Holders: []api.Holder{holder(1, span(0, 10), span(0, 5), 0), holder(2, span(0, 2), span(17+by, 30), 0)},
			Moves:   []api.Move{move(1, 1, 2, span(2, 3)), move(2, 2, 1, span(4, 6)), move(3, 1, 2, span(4, 16))},
		}
		equal(t, flow.CheckCut(x, cutOut(2)), want, by)
		n, e := flow.Through(x, cutOut(2))
		good(t, e)
		equal(t, n, by)
	}
}

// P5.3: cuts that are not formed.
func TestCutsThatAreNotFormed(t *testing.T) {
	for _, c := range []api.Cut{
		{}, cutOut(), cutIn(), {Way: 0, Holders: []int{2, 3}}, {Way: 3, Holders: []int{2, 3}}, {Way: -1, Holders: []int{2, 3}},
		{Way: maxInt, Holders: []int{2, 3}}, {Way: minInt, Holders: []int{2, 3}},
		cutOut(3, 2), cutOut(2, 2, 3), cutOut(2, 3, 3), cutOut(2, 3, 2), cutOut(0, 2, 3), cutOut(2, 3, 4), cutOut(2, 3, 7), cutOut(-1, 2, 3),
		cutOut(minInt, 2, 3), cutOut(2, 3, maxInt), cutOut(7), cutOut(0), cutIn(0), cutIn(2, 1), cutIn(1, 1), cutIn(1, 4),
	} {
		n, e := flow.Through(tooMuch(), c)
		equal(t, e, api.ErrArg, c)
		equal(t, n, 0, c)
		equal(t, flow.CheckCut(tooMuch(), c), api.ErrProof, c)
	}
}

// P5.3: cuts of a trade whose holders do not stand in the order of their IDs have them in it.
func TestCutsAreInOrder(t *testing.T) {
	x := tooMuch()
	slices.Reverse(x.Holders)
	c, is, e := flow.Contradiction(x)
	good(t, e)
	equal(t, is, true)
	equal(t, contradictsByWords(x, c), true, c)
	equal(t, flow.CheckCut(x, cutOut(2, 3)), api.OK)
	equal(t, flow.CheckCut(x, cutOut(3, 2)), api.ErrProof)
}

// P5.2, P5.3, R1: the largest trades, with and without a course.
func TestLargestTrades(t *testing.T) {
	x := ring()
	c, e := flow.Find(x)
	good(t, e)
	equal(t, isCourseByWords(x, c), true, c)
	for i := range x.Moves {
		x.Moves[i].Mass = at(api.MaxMass)
	}
	c, e = flow.Find(x) // the first holder loses three of them and gets two, the seventh one the other way round
	good(t, e)
	equal(t, isCourseByWords(x, c), true, c)
	sameList(t, []int{c.Start[0], c.End[0], c.Start[6], c.End[6]}, []int{api.MaxMass, 0, 0, api.MaxMass})
	for i := range x.Holders {
		x.Holders[i].Start, x.Holders[i].End = at(0), at(api.MaxMass)
	}
	cut, is, e := flow.Contradiction(x)
	good(t, e)
	equal(t, is, true)
	equal(t, contradictsByWords(x, cut), true, cut)
	n, e := flow.Through(x, cutOut(allIDs(x)...))
	good(t, e)
	equal(t, n, 9*api.MaxMass)
	n, e = flow.Through(x, cutIn(allIDs(x)...))
	good(t, e)
	equal(t, n, -9*api.MaxMass)
}

// allIDs lists the IDs of the holders of a trade in increasing order.
func allIDs(x api.Trade) []int {
	var ids []int
	for _, h := range x.Holders {
		ids = append(ids, h.ID)
	}
	slices.Sort(ids)
	return ids
}
