package tariff_test

import (
	"reflect"
	"slices"
	"sort"
	"strconv"
	"testing"

	"kentledge/api"
	"kentledge/tariff"
)

const (
	minInt = -1 << 63
	maxInt = 1<<63 - 1
)

// source is that of the chapter's examples.
const source = `due wharf: per 20 pay 3, flat 6;
due wharf of flint: per 40 pay 1 above 100 upto 300;
rebate wharf of shingle 1 in 10;
least wharf 12;
round wharf near 4;
due bond: flat 100; # each ship
`

func span(lo, hi int) api.Span { return api.Span{Lo: lo, Hi: hi} }

func lot(grade string, mass int) api.Lot { return api.Lot{Grade: grade, Mass: mass} }

func flat(pay int) api.Term { return api.Term{Pay: pay} }

func per(mass, pay, above, upto int) api.Term {
	return api.Term{Per: mass, Pay: pay, Above: above, Upto: upto}
}

func due(name string, terms ...api.Term) api.Rule {
	return api.Rule{Kind: api.RuDue, Due: name, Terms: terms}
}

func rebate(name string, n, d int) api.Rule {
	return api.Rule{Kind: api.RuRebate, Due: name, N: n, D: d}
}

func least(name string, n int) api.Rule { return api.Rule{Kind: api.RuLeast, Due: name, N: n} }

func most(name string, n int) api.Rule { return api.Rule{Kind: api.RuMost, Due: name, N: n} }

func round(name string, way, n int) api.Rule {
	return api.Rule{Kind: api.RuRound, Due: name, Way: way, N: n}
}

// of is a rule for some grades alone.
func of(r api.Rule, grades ...string) api.Rule {
	r.Grades = grades
	return r
}

func rules(l ...api.Rule) api.Tariff { return api.Tariff{Rules: l} }

// example is the tariff of the chapter's examples.
func example() api.Tariff {
	return rules(
		due("wharf", per(20, 3, 0, api.MaxMass), flat(6)),
		of(due("wharf", per(40, 1, 100, 300)), "flint"),
		of(rebate("wharf", 1, 10), "shingle"),
		least("wharf", 12),
		round("wharf", api.WayNear, 4),
		due("bond", flat(100)))
}

// editions are two: the tariff of the examples, and bonds alone.
func editions() []api.Edition {
	return []api.Edition{edition(1, 10, example()), edition(2, 20, rules(example().Rules[5]))}
}

func edition(id, from int, t api.Tariff) api.Edition {
	return api.Edition{ID: id, From: from, Tariff: t}
}

// fullNames are so many names, as long as can be.
func fullNames(first byte, n int) []string {
	var l []string
	for i := range n {
		l = append(l, string(first)+"234567890123456789012"+strconv.Itoa(10+i))
	}
	return l
}

// full is a tariff with as much of everything as can be, and all numbers as great as can be, for one due.
func full() api.Tariff {
	var t api.Tariff
	for range api.MaxRules {
		r := due(fullNames('d', 1)[0])
		for range api.MaxTerms {
			r.Terms = append(r.Terms, per(1, api.MaxPay, 0, api.MaxMass))
		}
		t.Rules = append(t.Rules, of(r, fullNames('g', api.MaxGrades)...))
	}
	return t
}

// isFor tells whether a rule is for a grade.
func isFor(r api.Rule, grade string) bool {
	return len(r.Grades) == 0 || slices.Contains(r.Grades, grade)
}

// penceByWords goes through the rules as the chapter tells, and counts what it can count.
func penceByWords(t api.Tariff, due, grade string, mass int) int {
	a := 0
	for _, r := range t.Rules {
		if r.Due == due && isFor(r, grade) {
			a = behindByWords(r, a, mass)
		}
	}
	return a
}

// behindByWords is what a rule leaves of some pence.
func behindByWords(r api.Rule, a, mass int) int {
	switch r.Kind {
	case api.RuDue:
		for _, t := range r.Terms {
			if t.Per == 0 {
				a += t.Pay
				continue
			}
			for begun := t.Above; begun < min(mass, t.Upto); begun += t.Per {
				a += t.Pay
			}
		}
	case api.RuRebate:
		taken := 0
		for (taken+1)*r.D <= a*r.N {
			taken++
		}
		a -= taken
	case api.RuLeast:
		if a < r.N {
			a = r.N
		}
	case api.RuMost:
		if a > r.N {
			a = r.N
		}
	case api.RuRound:
		a = roundedByWords(r, a)
	}
	return a
}

// roundedByWords looks for a multiple farther and farther away.
func roundedByWords(r api.Rule, a int) int {
	for away := 0; ; away++ {
		if r.Way != api.WayDown && (a+away)%r.N == 0 {
			return a + away
		}
		if r.Way != api.WayUp && (a-away)%r.N == 0 {
			return a - away
		}
	}
}

// duesByWords are the dues of some tariffs, by name.
func duesByWords(l ...api.Tariff) []string {
	var all []string
	for _, t := range l {
		for _, r := range t.Rules {
			all = append(all, r.Due)
		}
	}
	sort.Strings(all)
	return slices.Compact(all)
}

// gradesByWords are the grades that some tariffs name, by name.
func gradesByWords(l ...api.Tariff) []string {
	var all []string
	for _, t := range l {
		for _, r := range t.Rules {
			all = append(all, r.Grades...)
		}
	}
	sort.Strings(all)
	return slices.Compact(all)
}

// billByWords is the bill of a cargo.
func billByWords(t api.Tariff, cargo []api.Lot) []api.Charge {
	var bill []api.Charge
	for _, due := range duesByWords(t) {
		c := api.Charge{Due: due}
		for _, x := range cargo {
			c.Pence += penceByWords(t, due, x.Grade, x.Mass)
		}
		bill = append(bill, c)
	}
	return bill
}

func sumByWords(t api.Tariff, cargo []api.Lot) int {
	sum := 0
	for _, c := range billByWords(t, cargo) {
		sum += c.Pence
	}
	return sum
}

// less is a tariff without a rule.
func less(t api.Tariff, i int) api.Tariff {
	return rules(slices.Delete(slices.Clone(t.Rules), i, i+1)...)
}

// deep is a tariff that shares no memory with another one; lists that are empty are nil.
func deep(t api.Tariff) api.Tariff {
	var c api.Tariff
	for _, r := range t.Rules {
		r.Grades = append([]string(nil), r.Grades...)
		r.Terms = append([]api.Term(nil), r.Terms...)
		c.Rules = append(c.Rules, r)
	}
	return c
}

func deepEditions(l []api.Edition) []api.Edition {
	var c []api.Edition
	for _, x := range l {
		c = append(c, edition(x.ID, x.From, deep(x.Tariff)))
	}
	return c
}

// dice rolls numbers, the same ones in each run.
type dice struct{ state uint64 }

func (d *dice) between(lo, hi int) int {
	d.state = d.state*6364136223846793005 + 1442695040888963407
	return lo + int((d.state>>33)%uint64(hi-lo+1))
}

// one tells whether a die of so many sides shows its first one.
func (d *dice) one(sides int) bool { return d.between(1, sides) == 1 }

// shuffled rolls an order of a list.
func shuffled[T any](d *dice, l []T) []T {
	l = slices.Clone(l)
	for i := range l {
		j := d.between(0, i)
		l[i], l[j] = l[j], l[i]
	}
	return l
}

// someGrades are those that rolled rules name.
func someGrades() []string { return []string{"chalk", "flint", "shingle", "s2"} }

func (d *dice) due() string { return []string{"wharf", "bond", "b"}[d.between(0, 2)] }

// grade rolls a grade that rolled rules name, or not.
func (d *dice) grade() string { return append(someGrades(), "", "slag")[d.between(0, 5)] }

func (d *dice) term() api.Term {
	if d.one(3) {
		return flat(d.between(0, 20))
	}
	above := d.between(0, 2) * d.between(0, 10)
	upto := api.MaxMass
	if d.one(2) {
		upto = above + d.between(1, 30)
	}
	return per(d.between(1, 12), d.between(0, 5), above, upto)
}

func (d *dice) rule() api.Rule {
	r := api.Rule{Kind: d.between(api.RuDue, api.RuRound), Due: d.due()}
	if d.one(2) {
		r.Grades = shuffled(d, someGrades())[:d.between(1, 4)]
	}
	switch r.Kind {
	case api.RuDue:
		for range d.between(1, 3) {
			r.Terms = append(r.Terms, d.term())
		}
	case api.RuRebate:
		r.D = d.between(1, 10)
		r.N = d.between(0, r.D)
	case api.RuLeast, api.RuMost:
		r.N = d.between(0, 40)
	case api.RuRound:
		r.N = d.between(1, 9)
		r.Way = d.between(api.WayUp, api.WayNear)
	}
	return r
}

// tariff rolls a tariff of at most so many rules.
func (d *dice) tariff(most int) api.Tariff {
	var t api.Tariff
	for range d.between(0, most) {
		r := d.rule()
		if d.one(3) {
			r = due(r.Due, d.term()) // so that there is mostly something to be paid
		}
		t.Rules = append(t.Rules, r)
	}
	return t
}

// masses rolls a small span of masses.
func (d *dice) masses() api.Span {
	lo := d.between(0, 2) * d.between(0, 20)
	return span(lo, lo+d.between(0, 50))
}

func (d *dice) cargo() []api.Lot {
	var l []api.Lot
	for range d.between(0, 4) {
		l = append(l, lot(d.grade(), d.between(0, 60)))
	}
	return l
}

// editions rolls editions on the first forty days.
func (d *dice) editions() []api.Edition {
	var l []api.Edition
	day := d.between(0, 10)
	for _, id := range shuffled(d, []int{4, 1, 9, 3})[:d.between(0, 4)] {
		l = append(l, edition(id, day, d.tariff(5)))
		day += d.between(1, 10)
	}
	return l
}

// forTariffs rolls tariffs.
func forTariffs(times, most int, what func(d *dice, t api.Tariff)) {
	d := &dice{state: uint64(most)}
	for range times {
		what(d, d.tariff(most))
	}
}

// good fails unless a call had no error.
func good(t *testing.T, e api.Errno, about ...any) {
	t.Helper()
	if e != api.OK {
		t.Fatal("error", e, about)
	}
}

func equal[T comparable](t *testing.T, got, want T, about ...any) {
	t.Helper()
	if got != want {
		t.Fatal("got", got, "want", want, about)
	}
}

func sameList[T comparable](t *testing.T, got, want []T, about ...any) {
	t.Helper()
	if !slices.Equal(got, want) {
		t.Fatal("got", got, "want", want, about)
	}
}

func sameTariff(t *testing.T, got, want api.Tariff, about ...any) {
	t.Helper()
	if !reflect.DeepEqual(deep(got), deep(want)) {
		t.Fatal("got", got, "want", want, about)
	}
}

func sameEditions(t *testing.T, got, want []api.Edition, about ...any) {
	t.Helper()
	if !reflect.DeepEqual(deepEditions(got), deepEditions(want)) {
		t.Fatal("got", got, "want", want, about)
	}
}

// enough fails unless each of some things was met so often: the rolled tariffs would say too little otherwise.
func enough[T comparable](t *testing.T, met map[T]int, times int, things ...T) {
	t.Helper()
	for _, x := range things {
		if met[x] < times {
			t.Fatal("met", met[x], "times:", x)
		}
	}
}

// parsed asks for the tariff of a source.
func parsed(t *testing.T, source string) api.Tariff {
	t.Helper()
	x, e, at := tariff.Parse(source)
	good(t, e, source, at)
	equal(t, at, 0, source)
	return x
}

func printed(t *testing.T, x api.Tariff) string {
	t.Helper()
	s, e := tariff.Print(x)
	good(t, e, x)
	return s
}

func penceOf(t *testing.T, x api.Tariff, due, grade string, mass int) int {
	t.Helper()
	n, e := tariff.Pence(x, due, grade, mass)
	good(t, e, x, due, grade, mass)
	return n
}

func billOf(t *testing.T, x api.Tariff, cargo []api.Lot) []api.Charge {
	t.Helper()
	l, e := tariff.Bill(x, cargo)
	good(t, e, x, cargo)
	return l
}
