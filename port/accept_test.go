package port_test

import (
	"reflect"
	"slices"
	"testing"

	"kentledge/api"
	"kentledge/flow"
	"kentledge/port"
)

// copyOf is a reply that shares no memory with another one.
func copyOf(r api.Reply) api.Reply {
	r.Spans, r.IDs, r.Charges = slices.Clone(r.Spans), slices.Clone(r.IDs), slices.Clone(r.Charges)
	for _, c := range []*api.Course{&r.Course, &r.Low.Course, &r.High.Course} {
		*c = api.Course{Start: slices.Clone(c.Start), End: slices.Clone(c.End), Mass: slices.Clone(c.Mass)}
	}
	for _, c := range []*api.Cut{&r.Cut, &r.Low.Cut, &r.High.Cut} {
		c.Holders = slices.Clone(c.Holders)
	}
	return r
}

// twist changes each number, bool, text and list of a thing in turn, and calls f each time; then all is as it was.
func twist(v reflect.Value, f func()) {
	switch v.Kind() {
	case reflect.Int:
		n := v.Int()
		for _, add := range []int64{1, -1} {
			v.SetInt(n + add)
			f()
		}
		v.SetInt(n)
	case reflect.Bool:
		v.SetBool(!v.Bool())
		f()
		v.SetBool(!v.Bool())
	case reflect.String:
		s := v.String()
		v.SetString(s + "a")
		f()
		v.SetString(s)
	case reflect.Struct:
		for i := range v.NumField() {
			twist(v.Field(i), f)
		}
	case reflect.Slice:
		for i := range v.Len() {
			twist(v.Index(i), f)
		}
		before := reflect.ValueOf(v.Interface())
		v.Set(reflect.Append(before.Slice3(0, before.Len(), before.Len()), reflect.Zero(v.Type().Elem())))
		f()
		if n := before.Len(); n > 0 {
			v.Set(before.Slice(0, n-1))
			f()
			v.Set(before.Slice(1, n))
			f()
		}
		v.Set(before)
	}
}

// isRight tells whether a reply is right, by the words of the chapter: want is that of Answer, t the trade.
func isRight(t api.Trade, q api.Command, want, r api.Reply) bool {
	if want.Err == api.OK && r.Err == api.OK {
		switch {
		case q.Kind == api.CoHolds:
			end := api.At{Kind: api.AtEnd, ID: q.N}
			if flow.CheckLimit(t, end, r.Low, false) != api.OK || flow.CheckLimit(t, end, r.High, true) != api.OK {
				return false
			}
			want.Low, want.High = r.Low, r.High
		case q.Kind == api.CoCourse && r.Yes && flow.CheckCourse(t, r.Course) == api.OK:
			want.Course = r.Course
		case q.Kind == api.CoCourse && !r.Yes && flow.CheckCut(t, r.Cut) == api.OK:
			want.Cut = r.Cut
		}
	}
	return plain(r) == plain(want)
}

// P10.11, P10.16: whatever is changed of a reply, it is accepted only if it is right by the words of the chapter.
func TestTwistedReplies(t *testing.T) {
	d := &dice{}
	met := map[string]int{}
	for range 150 {
		s := d.flows()
		l := d.entries(s, d.of(3, 6, 12))
		q := d.question(s, 9)
		stand, _ := foldByWords(s, l, 9)
		want := port.Answer(s, l, q)
		r := copyOf(want)
		equal(t, port.CheckAnswer(s, l, q, r), api.OK, q)
		twist(reflect.ValueOf(&r).Elem(), func() {
			is := isRight(stand.Trade, q, want, r)
			e := port.CheckAnswer(s, l, q, r)
			equal(t, e == api.OK, is, q, plain(r), plain(want))
			equal(t, e == api.OK || e == api.ErrProof, true, e)
			met[map[bool]string{true: "right", false: "wrong"}[is]]++
		})
		alike(t, r, want)
		for range 10 {
			other := port.Answer(s, l, d.question(s, 9))
			equal(t, port.CheckAnswer(s, l, q, other) == api.OK, isRight(stand.Trade, q, want, other), q, plain(other), plain(want))
		}
	}
	enough(t, met, 5, "right")
	enough(t, met, 3000, "wrong")
}

// P10.11: an empty list is the same whether it is nil or not.
func TestEmptyListsOfReplies(t *testing.T) {
	s := full()
	l := book(2, move(7, 1, 2, span(30, 50)), move(8, 2, 3, span(35, 60)))
	for _, q := range []api.Command{askMass(2, 0, 1, 1), askHolds(2, 0, 1), askHolds(2, 0, 3), askCourse(2, 0), askLacks(2, 0), askDue(35), askWater(2, 0, span(0, 9), 4000)} {
		r := port.Answer(s, l, q)
		fill := func(l *[]int) {
			if len(*l) == 0 {
				*l = []int{}
			}
		}
		for _, list := range []*[]int{&r.IDs, &r.Course.Start, &r.Course.End, &r.Course.Mass, &r.Cut.Holders, &r.Low.Cut.Holders, &r.High.Cut.Holders, &r.Low.Course.Mass} {
			fill(list)
		}
		if len(r.Spans) == 0 {
			r.Spans = []api.Span{}
		}
		if len(r.Charges) == 0 {
			r.Charges = []api.Charge{}
		}
		equal(t, port.CheckAnswer(s, l, q, r), api.OK, q)
	}
}

// allCuts lists all cuts of three holders.
func allCuts() []api.Cut {
	var l []api.Cut
	for _, ids := range [][]int{{}, {1}, {2}, {3}, {1, 2}, {1, 3}, {2, 3}, {1, 2, 3}, {2, 1}, {4}, {1, 1}} {
		for way := range 4 {
			l = append(l, api.Cut{Way: way, Holders: ids})
		}
	}
	return l
}

// P10.11: other cuts and courses will do, as long as they are proved.
func TestOtherProofs(t *testing.T) {
	s := full()
	without := api.Trade{Holders: s.Holders}
	q := askCourse(2, 0)
	met := map[bool]int{}
	for _, cut := range allCuts() {
		is := flow.CheckCut(without, cut) == api.OK
		equal(t, port.CheckAnswer(s, nil, q, api.Reply{Cut: cut}) == api.OK, is, cut)
		equal(t, port.CheckAnswer(s, nil, q, api.Reply{Yes: true, Cut: cut}), api.ErrProof, cut)
		met[is]++
	}
	enough(t, met, 3, true, false)
	l := book(2, move(7, 1, 2, span(30, 50)), move(8, 2, 3, span(35, 60)))
	trade := api.Trade{Holders: s.Holders, Moves: []api.Move{l[0].Entry.Move, l[1].Entry.Move}}
	met = map[bool]int{}
	for seven := 29; seven <= 51; seven++ {
		for eight := 29; eight <= 61; eight++ {
			for start := 9; start <= 21; start++ {
				c := api.Course{Start: []int{100, 0, start}, End: []int{100 - seven, seven - eight, start + eight}, Mass: []int{seven, eight}}
				is := flow.CheckCourse(trade, c) == api.OK
				met[is]++
				equal(t, port.CheckAnswer(s, l, q, api.Reply{Yes: true, Course: c}) == api.OK, is, c)
				equal(t, port.CheckAnswer(s, l, q, api.Reply{Course: c}), api.ErrProof, c)
			}
		}
	}
	enough(t, met, 100, true, false)
	course, _ := flow.Find(trade)
	equal(t, port.CheckAnswer(s, l, q, api.Reply{Yes: true, Course: course, Cut: api.Cut{Way: 1, Holders: []int{1}}}), api.ErrProof)
	equal(t, port.CheckAnswer(s, l, q, api.Reply{Yes: true, Course: course, N: 1}), api.ErrProof)
	equal(t, port.CheckAnswer(s, l, q, failed(api.ErrClash)), api.ErrProof)
	equal(t, port.CheckAnswer(s, nil, q, failed(api.ErrClash)), api.ErrProof)
	equal(t, port.CheckAnswer(s, l, q, api.Reply{}), api.ErrProof)
	equal(t, port.CheckAnswer(s, nil, q, api.Reply{}), api.ErrProof)
}

// P10.11: limits are accepted with any course and cut that prove them, as the least number and as the greatest one, and no others.
func TestOtherLimits(t *testing.T) {
	s := full()
	s.Holders[1].End = span(0, 20)
	l := book(2, move(7, 1, 2, span(30, 50)), move(8, 2, 3, span(35, 60)))
	trade := api.Trade{Holders: s.Holders, Moves: []api.Move{l[0].Entry.Move, l[1].Entry.Move}}
	met := map[string]int{}
	for n := 1; n <= 3; n++ {
		q := askHolds(2, 0, n)
		want := port.Answer(s, l, q)
		good(t, want.Err)
		for seven := 30; seven <= 50; seven++ {
			for eight := 35; eight <= 60; eight += 5 {
				start := 20 - seven%2*10
				c := api.Course{Start: []int{100, 0, start}, End: []int{100 - seven, seven - eight, start + eight}, Mass: []int{seven, eight}}
				for _, cut := range allCuts() {
					r := want
					limit := api.Limit{Value: c.End[n-1], Course: c, Cut: cut}
					r.Low = limit
					isLeast := isRight(trade, q, want, r)
					equal(t, port.CheckAnswer(s, l, q, r) == api.OK, isLeast, limit)
					r.Low, r.High = want.Low, limit
					isGreatest := isRight(trade, q, want, r)
					equal(t, port.CheckAnswer(s, l, q, r) == api.OK, isGreatest, limit)
					if isLeast {
						met["least"]++
					}
					if isGreatest {
						met["greatest"]++
					}
				}
			}
		}
		swapped := want
		swapped.Low, swapped.High = want.High, want.Low
		equal(t, port.CheckAnswer(s, l, q, swapped), api.ErrProof)
		for _, e := range []api.Errno{api.ErrNone, api.ErrClash} {
			equal(t, port.CheckAnswer(s, l, q, failed(e)), api.ErrProof)
		}
		other := askHolds(2, 0, n%3+1)
		equal(t, port.CheckAnswer(s, l, other, want), api.ErrProof)
	}
	enough(t, met, 3, "least", "greatest")
}

// P10.11: the index of the first reply that is not right, whatever comes behind it; questions to wharves that are none, and other commands, have the replies of Do.
func TestWrongReplies(t *testing.T) {
	d := &dice{}
	wrong := 0
	for range 15 {
		s := d.script(d.of(10, 20, 40))
		l := ran(t, s)
		for i := range l {
			other := slices.Clone(l)
			r := copyOf(l[i])
			other[i] = r
			twist(reflect.ValueOf(&other[i]).Elem(), func() {
				if !d.one(4) {
					return
				}
				e, at := port.Accept(s, other)
				if isOther := s.Commands[i].Kind == api.CoCourse || s.Commands[i].Kind == api.CoHolds; e == api.OK && isOther {
					return // another proof
				}
				equal(t, e, api.ErrProof, s.Commands[i], plain(other[i]), plain(l[i]))
				equal(t, at, i)
				wrong++
			})
			if i > 0 {
				other[i-1].N += 5
				other[i].N += 5
				acceptIs(t, s, other, api.ErrProof, i-1)
			}
		}
	}
	equal(t, wrong > 600, true, wrong)
}

// P10.11: each question is checked for what its wharf knows when it is asked, with other proofs too.
func TestAcceptOfOtherProofs(t *testing.T) {
	commands := []api.Command{tell(5, move(7, 1, 2, span(30, 50))), askCourse(5, 0), tell(2, move(8, 2, 3, span(35, 60))), meet(2, 5), askCourse(5, 0), askHolds(4, 0, 1), askCourse(4, 0)}
	s := scriptOf(commands...)
	l := ran(t, s)
	alike(t, l[5], failed(api.ErrNone))
	alike(t, l[6], failed(api.ErrNone))
	before := api.Trade{Holders: s.Setting.Holders, Moves: []api.Move{commands[0].Entry.Move}}
	for _, cut := range allCuts() {
		want, at := api.ErrProof, 1
		if flow.CheckCut(before, cut) == api.OK {
			want, at = api.OK, -1
		}
		l[1].Cut = cut
		acceptIs(t, s, l, want, at, cut)
	}
	l = ran(t, s)
	c := api.Course{Start: []int{100, 0, 12}, End: []int{58, 2, 52}, Mass: []int{40, 42}} // 2 is ahead of 5
	l[4].Course = c
	acceptIs(t, s, l, api.OK, -1)
	l[6] = api.Reply{Yes: true, Course: c}
	acceptIs(t, s, l, api.ErrProof, 6)
	l[5] = failed(api.ErrArg)
	acceptIs(t, s, l, api.ErrProof, 5)
	l[4].Course.Mass = []int{40, 41}
	acceptIs(t, s, l, api.ErrProof, 4)
}
