package tariff_test

import (
	"reflect"
	"slices"
	"testing"

	"kentledge/api"
	"kentledge/tariff"
)

// ask is what functions with a tariff are asked for; not all of it matters to each of them.
type ask struct {
	due, grade string
	mass       int
	span       api.Span
	pence      int
	cargo      []api.Lot
}

// asked is one of these functions; empty tells whether the results beside the error are zero.
type asked struct {
	name string
	of   func(x api.Tariff, a ask) (e api.Errno, empty bool)
}

// askedOfTariffs lists the functions with a tariff alone.
func askedOfTariffs() []asked {
	return []asked{
		{"Check", func(x api.Tariff, _ ask) (api.Errno, bool) { return tariff.Check(x), true }},
		{"Print", func(x api.Tariff, _ ask) (api.Errno, bool) {
			s, e := tariff.Print(x)
			return e, s == ""
		}},
		{"Dues", func(x api.Tariff, _ ask) (api.Errno, bool) {
			l, e := tariff.Dues(x)
			return e, len(l) == 0
		}},
		{"Grades", func(x api.Tariff, _ ask) (api.Errno, bool) {
			l, e := tariff.Grades(x)
			return e, len(l) == 0
		}},
	}
}

// askedOfMasses lists those with a due, a grade and a mass.
func askedOfMasses() []asked {
	return []asked{
		{"Pence", func(x api.Tariff, a ask) (api.Errno, bool) {
			n, e := tariff.Pence(x, a.due, a.grade, a.mass)
			return e, n == 0
		}},
		{"Trace", func(x api.Tariff, a ask) (api.Errno, bool) {
			l, e := tariff.Trace(x, a.due, a.grade, a.mass)
			return e, len(l) == 0
		}},
	}
}

// askedOfStages lists those with a due, a grade and a span of masses.
func askedOfStages() []asked {
	return []asked{
		{"Stages", func(x api.Tariff, a ask) (api.Errno, bool) {
			l, e := tariff.Stages(x, a.due, a.grade, a.span)
			return e, len(l) == 0
		}},
		{"Ends", func(x api.Tariff, a ask) (api.Errno, bool) {
			low, high, e := tariff.Ends(x, a.due, a.grade, a.span)
			return e, low == api.Stage{} && high == api.Stage{}
		}},
		{"Falls", func(x api.Tariff, a ask) (api.Errno, bool) {
			m, is, e := tariff.Falls(x, a.due, a.grade, a.span)
			return e, m == 0 && !is
		}},
		{"From", func(x api.Tariff, a ask) (api.Errno, bool) {
			m, e := tariff.From(x, a.due, a.grade, a.span, a.pence)
			return e, m == 0
		}},
	}
}

// askedOfSpans lists those with a span of masses alone.
func askedOfSpans() []asked {
	return []asked{
		{"Same", func(x api.Tariff, a ask) (api.Errno, bool) {
			due, grade, m, is, e := tariff.Same(x, example(), a.span)
			return e, due == "" && grade == "" && m == 0 && !is
		}},
		{"Same, the other way round", func(x api.Tariff, a ask) (api.Errno, bool) {
			due, grade, m, is, e := tariff.Same(example(), x, a.span)
			return e, due == "" && grade == "" && m == 0 && !is
		}},
		{"Spare", func(x api.Tariff, a ask) (api.Errno, bool) {
			l, e := tariff.Spare(x, a.span)
			return e, len(l) == 0
		}},
	}
}

// askedOfCargoes lists those with a cargo.
func askedOfCargoes() []asked {
	return []asked{
		{"Bill", func(x api.Tariff, a ask) (api.Errno, bool) {
			l, e := tariff.Bill(x, a.cargo)
			return e, len(l) == 0
		}},
		{"Rests", func(x api.Tariff, a ask) (api.Errno, bool) {
			l, e := tariff.Rests(x, a.cargo)
			return e, len(l) == 0
		}},
	}
}

func allAsked() []asked {
	return slices.Concat(askedOfTariffs(), askedOfMasses(), askedOfStages(), askedOfSpans(), askedOfCargoes())
}

// fine is what all of them can be asked for of the tariff of the examples.
func fine() ask {
	return ask{due: "wharf", grade: "flint", mass: 200, span: span(0, 60), pence: 13, cargo: []api.Lot{lot("flint", 200)}}
}

// allWrong is wrong in each part.
func allWrong() ask {
	return ask{due: "lost", grade: "of", mass: -1, span: span(2, 1), pence: maxInt, cargo: make([]api.Lot, api.MaxLots+1)}
}

// ends fails unless each function returns an error, and with it nothing.
func ends(t *testing.T, l []asked, x api.Tariff, a ask, want api.Errno) {
	t.Helper()
	for _, f := range l {
		e, empty := f.of(x, a)
		equal(t, e, want, f.name, a)
		equal(t, empty, true, f.name, a)
	}
}

// R3, R4: the error of the tariff comes first, whatever else is wrong, and with it nothing.
func TestErrorsOfTariffsComeFirst(t *testing.T) {
	for _, a := range []ask{fine(), allWrong()} {
		for _, x := range wrongRules() {
			ends(t, allAsked(), rules(append(example().Rules, x.Rule)...), a, api.ErrForm)
		}
		ends(t, allAsked(), rules(append(full().Rules, most("A", 1))...), a, api.ErrLimit)
	}
	for _, f := range allAsked() {
		e, _ := f.of(example(), fine())
		equal(t, e, api.OK, f.name)
	}
}

// P7.6, R3: of two tariffs the error of the first one comes first.
func TestErrorsOfTwoTariffs(t *testing.T) {
	long, bad := rules(make([]api.Rule, api.MaxRules+1)...), rules(most("A", 1))
	for _, s := range []api.Span{span(0, 5), span(2, 1)} {
		_, _, _, _, e := tariff.Same(long, bad, s)
		equal(t, e, api.ErrLimit)
		_, _, _, _, e = tariff.Same(bad, long, s)
		equal(t, e, api.ErrForm)
	}
}

// P7.3, P7.5, R3: then that of the due, of the grade, and of the mass or the span.
func TestErrorsOfWhatIsAsked(t *testing.T) {
	both := slices.Concat(askedOfMasses(), askedOfStages())
	for _, name := range append(wrongNames(), "lost", "wharf1", "flint", "bon") {
		a := allWrong()
		a.due = name
		ends(t, both, example(), a, api.ErrNone)
		a = fine()
		a.due = name
		ends(t, both, example(), a, api.ErrNone)
		ends(t, both, api.Tariff{}, a, api.ErrNone)
	}
	for _, name := range wrongNames() {
		if name == "" {
			continue
		}
		for _, a := range []ask{fine(), allWrong()} {
			a.due, a.grade = "wharf", name
			ends(t, both, example(), a, api.ErrArg)
			a.span = span(0, api.MaxMasses)
			ends(t, both, example(), a, api.ErrArg)
		}
	}
	for _, n := range []int{-1, api.MaxMass + 1, minInt, maxInt} {
		a := fine()
		a.mass = n
		ends(t, askedOfMasses(), example(), a, api.ErrArg)
	}
}

// P7.5, P7.6, R3: what is no span within the masses comes ahead of one with too many masses.
func TestErrorsOfSpans(t *testing.T) {
	all := slices.Concat(askedOfStages(), askedOfSpans())
	for _, pence := range []int{13, maxInt} {
		a := fine()
		a.pence = pence
		for _, s := range []api.Span{span(2, 1), span(-1, 5), span(-1, -1), span(5, -1), span(-1, api.MaxMasses), span(5, api.MaxMass+1), span(api.MaxMass, api.MaxMass+1), span(api.MaxMass+1, api.MaxMass+1), span(api.MaxMass+1, 5), span(api.MaxMass, 0), span(minInt, maxInt), span(maxInt, minInt), span(0, maxInt), span(minInt, 0), span(minInt, minInt), span(maxInt, maxInt)} {
			a.span = s
			ends(t, all, example(), a, api.ErrArg)
		}
		for _, s := range []api.Span{span(0, api.MaxMasses), span(1, api.MaxMasses+1), span(api.MaxMass-api.MaxMasses, api.MaxMass), span(0, api.MaxMass)} {
			a.span = s
			ends(t, all, example(), a, api.ErrLimit)
		}
	}
	a := fine()
	for _, s := range []api.Span{span(0, api.MaxMasses-1), span(api.MaxMass-api.MaxMasses+1, api.MaxMass), span(0, 0), span(api.MaxMass, api.MaxMass)} {
		a.span, a.pence = s, 0
		for _, f := range all {
			e, _ := f.of(example(), a)
			equal(t, e, api.OK, f.name, s)
		}
	}
}

// P7.4, R3: the errors of a cargo, lot by lot.
func TestErrorsOfCargoes(t *testing.T) {
	lots := func(n int, behind ...api.Lot) []api.Lot {
		return append(slices.Repeat([]api.Lot{lot("flint", 5)}, n), behind...)
	}
	is := func(cargo []api.Lot, want api.Errno) {
		t.Helper()
		for _, x := range []api.Tariff{example(), {}} {
			ends(t, askedOfCargoes(), x, ask{cargo: cargo}, want)
		}
	}
	is(lots(api.MaxLots+1), api.ErrLimit)
	is(lots(api.MaxLots, lot("A", -1)), api.ErrLimit)
	for _, n := range []int{-1, api.MaxMass + 1, minInt, maxInt} {
		is(lots(0, lot("", n)), api.ErrArg)
		is(lots(11, lot("flint", n)), api.ErrArg)
	}
	for _, name := range wrongNames() {
		if name != "" {
			is(lots(0, lot(name, 1)), api.ErrArg)
			is(append(lots(3, lot(name, 1)), lots(3)...), api.ErrArg)
		}
	}
	for _, cargo := range [][]api.Lot{nil, lots(api.MaxLots), lots(0, lot("", 0), lot("z9", api.MaxMass), lot("wharf", 1), lot(fullNames('g', 1)[0], 1))} {
		for _, f := range askedOfCargoes() {
			e, _ := f.of(example(), ask{cargo: cargo})
			equal(t, e, api.OK, f.name, cargo)
		}
	}
}

// roomy returns a copy of a list with something behind its end, and a test that all of it is as it was.
func roomy[T any](l []T, mark T) ([]T, func() bool) {
	long := append(slices.Clone(l), mark, mark)
	before := slices.Clone(long)
	return long[:len(l)], func() bool { return reflect.DeepEqual(long, before) }
}

// roomyTariff does so with all lists of a tariff.
func roomyTariff(x api.Tariff) (api.Tariff, func() bool) {
	x = deep(x)
	var tests []func() bool
	for i, r := range x.Rules {
		grades, are := roomy(r.Grades, "mark")
		terms, is := roomy(r.Terms, flat(-7))
		x.Rules[i].Grades, x.Rules[i].Terms = grades, terms
		tests = append(tests, are, is)
	}
	list, is := roomy(x.Rules, most("mark", -7))
	return api.Tariff{Rules: list}, func() bool {
		return is() && !slices.ContainsFunc(tests, func(is func() bool) bool { return !is() })
	}
}

// spoil writes over all memory of a tariff.
func spoil(x api.Tariff) {
	for i, r := range x.Rules {
		_ = append(r.Grades, "spoilt")
		_ = append(r.Terms, flat(-1))
		clear(r.Grades)
		clear(r.Terms)
		x.Rules[i] = api.Rule{}
	}
	_ = append(x.Rules, api.Rule{Kind: -1})
}

// R6: arguments are not changed, nor is what lies behind their ends.
func TestArgumentsStay(t *testing.T) {
	forTariffs(300, 6, func(d *dice, x api.Tariff) {
		before := deep(x)
		x, isSame := roomyTariff(x)
		a := fine()
		a.due, a.grade, a.span = d.due(), d.grade(), d.masses()
		cargo, isCargo := roomy(d.cargo(), lot("mark", -7))
		a.cargo = cargo
		for _, f := range allAsked() {
			f.of(x, a)
		}
		for _, l := range [][]string{first(tariff.Dues(x)), first(tariff.Grades(x))} {
			_ = append(l, "spoilt")
			clear(l)
		}
		for _, l := range [][]int{first(tariff.Spare(x, a.span)), first(tariff.Rests(x, cargo))} {
			_ = append(l, -1)
			clear(l)
		}
		clear(first(tariff.Bill(x, cargo)))
		clear(first(tariff.Trace(x, a.due, a.grade, 5)))
		clear(first(tariff.Stages(x, a.due, a.grade, a.span)))
		equal(t, isSame() && isCargo(), true, x)
		sameTariff(t, x, before)
	})
}

// first is the first one of two results.
func first[T any](x T, _ api.Errno) T { return x }

// R6: the same of editions; those that are returned are new memory.
func TestEditionsStay(t *testing.T) {
	d := &dice{state: 6}
	for range 300 {
		l := d.editions()
		var tests []func() bool
		for i := range l {
			x, is := roomyTariff(l[i].Tariff)
			l[i].Tariff = x
			tests = append(tests, is)
		}
		l, isSame := roomy(l, edition(-7, -7, api.Tariff{}))
		x, isRoomy := roomyTariff(d.tariff(4))
		cargo := d.cargo()
		more, e := tariff.Add(l, edition(50, 60, x))
		good(t, e)
		for _, y := range more {
			spoil(y.Tariff)
		}
		clear(more)
		for day := range 50 {
			y, e := tariff.InForce(l, day)
			if e == api.OK {
				spoil(y.Tariff)
			}
			clear(first(tariff.Due(l, day, cargo)))
		}
		tariff.Cheapest(l, span(0, 50), cargo)
		tariff.CheckEditions(l)
		equal(t, isSame() && isRoomy(), true, l)
		for _, is := range tests {
			equal(t, is(), true, l)
		}
	}
}

// R6: lists of one result share no memory with each other, also if one tariff is given twice.
func TestResultsShareNothing(t *testing.T) {
	x := example()
	more, e := tariff.Add([]api.Edition{edition(1, 1, x), edition(2, 2, x)}, edition(3, 3, x))
	good(t, e)
	spoil(more[0].Tariff)
	sameTariff(t, more[1].Tariff, example())
	spoil(more[1].Tariff)
	sameTariff(t, more[2].Tariff, example())
	y := parsed(t, source+source)
	for i := range y.Rules[:6] {
		spoil(rules(y.Rules[i]))
	}
	sameTariff(t, rules(y.Rules[6:]...), example())
}

// R7: the same arguments have the same results, whatever was asked before and is done to what was answered.
func TestSameResultsAgain(t *testing.T) {
	forTariffs(200, 8, func(d *dice, x api.Tariff) {
		s, cargo := d.masses(), d.cargo()
		bill, spare, rests, text := billOf(t, x, cargo), spareOf(t, x, s), restsOf(t, x, cargo), printed(t, x)
		for range 3 {
			again := billOf(t, x, cargo)
			sameList(t, again, bill, x, cargo)
			clear(again)
			sameList(t, spareOf(t, x, s), spare, x, s)
			sameList(t, restsOf(t, x, cargo), rests, x, cargo)
			equal(t, printed(t, x), text)
			spoil(parsed(t, text))
			spareOf(t, example(), span(0, 60))
		}
	})
}
