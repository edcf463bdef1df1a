package curve_test

import (
	"slices"
	"testing"

	"kentledge/api"
	"kentledge/curve"
)

// call is one of the functions, with all that any of them is given; empty tells whether the results beside the error are zero.
type call struct {
	name string
	of   func(a, b api.Curve, x int, s api.Span) (e api.Errno, empty bool)
}

func none(c api.Curve) bool { return len(c.Knots) == 0 && c.Err == 0 }

// oneCurve lists the functions that look at the first curve only.
func oneCurve() []call {
	return []call{
		{"Check", func(a, _ api.Curve, _ int, _ api.Span) (api.Errno, bool) { return curve.Check(a), true }},
		{"Domain", func(a, _ api.Curve, _ int, _ api.Span) (api.Errno, bool) {
			r, e := curve.Domain(a)
			return e, r == api.Span{}
		}},
		{"Rising", func(a, _ api.Curve, _ int, _ api.Span) (api.Errno, bool) {
			r, e := curve.Rising(a)
			return e, r == 0
		}},
		{"Steepest", func(a, _ api.Curve, _ int, _ api.Span) (api.Errno, bool) {
			i, r, e := curve.Steepest(a)
			return e, i == 0 && r == api.Frac{}
		}},
		{"Inverse", func(a, _ api.Curve, x int, _ api.Span) (api.Errno, bool) {
			r, e := curve.Inverse(a, x)
			return e, r == api.Frac{}
		}},
		{"Reach", func(a, _ api.Curve, _ int, s api.Span) (api.Errno, bool) {
			r, e := curve.Reach(a, s)
			return e, r == api.Range{}
		}},
		{"Refine", func(a, _ api.Curve, x int, _ api.Span) (api.Errno, bool) {
			r, e := curve.Refine(a, []int{x})
			return e, none(r)
		}},
		{"Thin", func(a, _ api.Curve, _ int, _ api.Span) (api.Errno, bool) {
			r, e := curve.Thin(a)
			return e, none(r)
		}},
	}
}

// atX lists the functions that are given an x; those of lists get both curves.
func atX() []call {
	return []call{
		{"Value", func(a, _ api.Curve, x int, _ api.Span) (api.Errno, bool) {
			r, e := curve.Value(a, x)
			return e, r == api.Frac{}
		}},
		{"Values", func(a, _ api.Curve, x int, _ api.Span) (api.Errno, bool) {
			r, e := curve.Values(a, x)
			return e, r == api.Range{}
		}},
		{"Both", func(a, b api.Curve, x int, _ api.Span) (api.Errno, bool) {
			r, e := curve.Both([]api.Curve{a, b}, x)
			return e, r == api.Range{}
		}},
		{"Least", func(a, b api.Curve, x int, _ api.Span) (api.Errno, bool) {
			i, r, e := curve.Least([]api.Curve{a, b}, x)
			return e, i == 0 && r == api.Frac{}
		}},
	}
}

// overSpan lists the functions that are given a span of the domain.
func overSpan() []call {
	return []call{
		{"Over", func(a, _ api.Curve, _ int, s api.Span) (api.Errno, bool) {
			r, e := curve.Over(a, s)
			return e, r == api.Peak{}
		}},
		{"CheckOver", func(a, _ api.Curve, _ int, s api.Span) (api.Errno, bool) {
			return curve.CheckOver(a, s, api.Peak{}), true
		}},
		{"Cut", func(a, _ api.Curve, _ int, s api.Span) (api.Errno, bool) {
			r, e := curve.Cut(a, s)
			return e, none(r)
		}},
		{"Apart", func(a, b api.Curve, _ int, s api.Span) (api.Errno, bool) {
			r, e := curve.Apart(a, b, s)
			return e, r == api.Peak{}
		}},
	}
}

// pair lists the functions that are given two curves.
func pair() []call {
	return []call{
		{"Add", func(a, b api.Curve, _ int, _ api.Span) (api.Errno, bool) {
			r, e := curve.Add(a, b)
			return e, none(r)
		}},
		{"Minus", func(a, b api.Curve, _ int, _ api.Span) (api.Errno, bool) {
			r, e := curve.Minus(a, b)
			return e, none(r)
		}},
		{"Apart", func(a, b api.Curve, _ int, s api.Span) (api.Errno, bool) {
			r, e := curve.Apart(a, b, s)
			return e, r == api.Peak{}
		}},
		{"Cross", func(a, b api.Curve, _ int, _ api.Span) (api.Errno, bool) {
			r, e := curve.Cross(a, b)
			return e, len(r) == 0
		}},
		{"Clash", func(a, b api.Curve, _ int, _ api.Span) (api.Errno, bool) {
			x, is, e := curve.Clash(a, b)
			return e, x == 0 && !is
		}},
		{"Both", func(a, b api.Curve, x int, _ api.Span) (api.Errno, bool) {
			r, e := curve.Both([]api.Curve{a, b}, x)
			return e, r == api.Range{}
		}},
		{"Least", func(a, b api.Curve, x int, _ api.Span) (api.Errno, bool) {
			i, r, e := curve.Least([]api.Curve{a, b}, x)
			return e, i == 0 && r == api.Frac{}
		}},
		{"Same", func(a, b api.Curve, _ int, _ api.Span) (api.Errno, bool) {
			r, e := curve.Same(a, b)
			return e, !r
		}},
	}
}

func fails(t *testing.T, k call, a, b api.Curve, x int, s api.Span, want api.Errno) {
	t.Helper()
	e, empty := k.of(a, b, x, s)
	equal(t, e, want, k.name, a, b, x, s)
	if !empty {
		t.Error("results beside an error", k.name, a, b, x, s)
	}
}

// xFar and spanFar are wrong by themselves: the error of a curve comes first nevertheless.
const xFar = 5000

var spanFar = span(1<<40, -1<<40)

// R3, R4, and the chapter's words before P1.1: the error of the first bad curve comes before all others.
func TestErrorsOfCurvesComeFirst(t *testing.T) {
	bad, long, fine := api.Curve{}, tooLong(), exampleC()
	for _, k := range slices.Concat(oneCurve(), atX(), overSpan()) {
		fails(t, k, bad, fine, xFar, spanFar, api.ErrArg)
		fails(t, k, long, fine, xFar, spanFar, api.ErrLimit)
	}
	for _, k := range pair() {
		fails(t, k, bad, long, xFar, spanFar, api.ErrArg)
		fails(t, k, long, bad, xFar, spanFar, api.ErrLimit)
		fails(t, k, fine, long, xFar, spanFar, api.ErrLimit)
		fails(t, k, fine, bad, xFar, spanFar, api.ErrArg)
	}
}

// R3, R4: behind the errors of curves, ErrRange for an x; ErrArg, then ErrRange, for a span.
func TestErrorsOfSpansAndX(t *testing.T) {
	a, b := exampleC(), curveOf(0, 5, 0, 15, 10)
	for _, k := range atX() {
		for _, x := range []int{-1, 21, xFar, minInt, maxInt} {
			fails(t, k, a, a, x, spanFar, api.ErrRange)
		}
	}
	for _, k := range overSpan() {
		for _, s := range []api.Span{span(6, 5), span(30, 29), span(-1, -2), spanFar, span(maxInt, minInt)} {
			fails(t, k, a, a, 0, s, api.ErrArg)
		}
		for _, s := range []api.Span{span(-1, 5), span(5, 21), span(-1, 21), span(30, 31), span(minInt, maxInt), span(minInt, minInt)} {
			fails(t, k, a, a, 0, s, api.ErrRange)
		}
	}
	for _, k := range pair() {
		switch k.name {
		case "Apart":
			fails(t, k, a, b, 0, span(4, 10), api.ErrRange)
			fails(t, k, b, a, 0, span(4, 10), api.ErrRange)
			fails(t, k, a, b, 0, span(10, 16), api.ErrRange)
			fails(t, k, b, a, 0, span(10, 16), api.ErrRange)
		case "Both", "Least":
			for _, x := range []int{4, 16} {
				fails(t, k, a, b, x, spanFar, api.ErrRange)
				fails(t, k, b, a, x, spanFar, api.ErrRange)
			}
		}
	}
}

// R3: a list that is too long is told before its curves are looked at, and these before the x.
func TestErrorsOfLists(t *testing.T) {
	for _, c := range []api.Curve{exampleC(), {}, tooLong()} {
		long := slices.Repeat([]api.Curve{c}, api.MaxSheaf+1)
		_, e := curve.Both(long, xFar)
		equal(t, e, api.ErrLimit, "Both", c)
		_, _, e = curve.Least(long, xFar)
		equal(t, e, api.ErrLimit, "Least", c)
	}
	l := slices.Repeat([]api.Curve{exampleC()}, api.MaxSheaf)
	l[api.MaxSheaf-1] = api.Curve{}
	_, e := curve.Both(l, xFar)
	equal(t, e, api.ErrArg, "the last one")
	_, _, e = curve.Least(l, xFar)
	equal(t, e, api.ErrArg, "the last one")
}

// hidden returns a curve whose knots are followed by more memory, and all of that memory.
func hidden(c api.Curve) (api.Curve, []api.Knot) {
	all := append(slices.Clone(c.Knots), slices.Repeat([]api.Knot{{X: 77, Y: 88}}, 50)...)
	return api.Curve{Knots: all[:len(c.Knots)], Err: c.Err}, all
}

// R6: arguments stay as they are, behind their end as well.
func TestArgumentsStay(t *testing.T) {
	a, memA := hidden(curveOf(2, 0, 0, 4, 2, 10, 5, 20, 25))
	b, memB := hidden(curveOf(3, 0, 9, 4, 2, 10, -5, 20, 0))
	keptA, keptB := slices.Clone(memA), slices.Clone(memB)
	for _, k := range slices.Concat(oneCurve(), atX(), overSpan(), pair()) {
		k.of(a, b, 12, span(4, 12))
		k.of(b, a, 7, span(0, 20))
	}
	xs := []int{12, 4, 2, 12, 99, 98}
	_, e := curve.Refine(a, xs[:4])
	equal(t, e, api.OK)
	if !slices.Equal(memA, keptA) || !slices.Equal(memB, keptB) || !slices.Equal(xs, []int{12, 4, 2, 12, 99, 98}) {
		t.Error("an argument was changed", memA, memB, xs)
	}
}

// R6: results are new memory: changing one changes neither an argument nor another result.
func TestResultsAreNew(t *testing.T) {
	makers := map[string]func(c api.Curve) (api.Curve, api.Errno){
		"Refine": func(c api.Curve) (api.Curve, api.Errno) { return curve.Refine(c, nil) },
		"more":   func(c api.Curve) (api.Curve, api.Errno) { return curve.Refine(c, []int{12}) },
		"Thin":   curve.Thin,
		"Cut":    func(c api.Curve) (api.Curve, api.Errno) { return curve.Cut(c, span(0, 20)) },
		"Add":    func(c api.Curve) (api.Curve, api.Errno) { return curve.Add(c, c) },
		"Minus":  func(c api.Curve) (api.Curve, api.Errno) { return curve.Minus(c, c) },
	}
	for name, of := range makers {
		c, mem := hidden(exampleC())
		kept := slices.Clone(mem)
		first, e := of(c)
		good(t, e, name)
		second, e := of(c)
		good(t, e, name)
		want := slices.Clone(second.Knots)
		for i := range first.Knots {
			first.Knots[i] = api.Knot{X: -5, Y: -5}
		}
		first.Knots = append(first.Knots, api.Knot{X: -6, Y: -6})
		if !slices.Equal(mem, kept) || !slices.Equal(second.Knots, want) {
			t.Error("shared memory", name)
		}
	}
}

// R1, R8: calls with the greatest curves that there can be end, with exact results.
func TestGreatestCurves(t *testing.T) {
	a, b := api.Curve{Err: api.MaxErr}, api.Curve{}
	for i := range api.MaxKnots {
		sign := 1 - 2*(i%2)
		a.Knots = append(a.Knots, api.Knot{X: i * 51, Y: sign * api.MaxY})
		b.Knots = append(b.Knots, api.Knot{X: i*51 + 11, Y: -sign * api.MaxY})
	}
	valid(t, a)
	valid(t, b)
	l, e := curve.Cross(a, b)
	good(t, e)
	if want := crossings(t, a, b); !slices.Equal(l, want) {
		t.Error(l, want)
	}
	p, e := curve.Apart(a, b, span(11, 1989))
	good(t, e)
	if p.Lo.Den <= 1 || p.Hi.Den <= 1 {
		t.Error("the extremes lie at no knot of both", p)
	}
	x, is, e := curve.Clash(a, b)
	good(t, e)
	equal(t, x, 11)
	equal(t, is, true)
}
