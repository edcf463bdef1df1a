package tariff_test

import (
	"slices"
	"strings"
	"testing"

	"kentledge/api"
	"kentledge/tariff"
)

// wrongRule is a rule that is not formed.
type wrongRule struct {
	name string
	api.Rule
}

// wrongNames are no names; a grade can be the empty one of them.
func wrongNames() []string {
	return append(reserved(), "", "A", "aB", "1a", "a ", " a", "a-b", "a_", "é", "a\xff", "a{", "a`", "a/", "a:", "a\n", "0", strings.Repeat("a", api.MaxName+1), strings.Repeat("a", 1<<16))
}

func reserved() []string {
	return []string{"due", "of", "flat", "per", "pay", "above", "upto", "rebate", "in", "least", "most", "round", "up", "down", "near"}
}

// goodNames are names, some of which are nearly reserved words, or as long as can be.
func goodNames() []string {
	return append(fullNames('z', 2), "a", "z", "a0", "z9", "dues", "du", "due1", "off", "atmost", "rounds", "uptoo", "ins", "i", "flatt", "mostly", strings.Repeat("z", api.MaxName))
}

func withN(r api.Rule, n int) api.Rule {
	r.N = n
	return r
}

func withD(r api.Rule, n int) api.Rule {
	r.D = n
	return r
}

func withWay(r api.Rule, way int) api.Rule {
	r.Way = way
	return r
}

func withTerm(r api.Rule, x api.Term) api.Rule {
	r.Terms = []api.Term{x}
	return r
}

func withKind(r api.Rule, kind int) api.Rule {
	r.Kind = kind
	return r
}

func wrongRules() []wrongRule {
	one := due("a", flat(1))
	list := []wrongRule{
		{"no kind", api.Rule{Due: "a"}},
		{"no terms", due("a")},
		{"seven terms", due("a", make([]api.Term, api.MaxTerms+1)...)},
		{"nine grades", of(one, fullNames('g', api.MaxGrades+1)...)},
		{"a grade twice", of(one, "b", "c", "b")},
		{"a grade twice, neighbours", of(one, "b", "b")},
		{"an empty grade", of(one, "")},
		{"a due with N", withN(one, 1)},
		{"a due with D", withD(one, 1)},
		{"a due with a way", withWay(one, 1)},
		{"a rebate with a way", withWay(rebate("a", 1, 2), 1)},
		{"a rebate with a term", withTerm(rebate("a", 1, 2), flat(0))},
		{"a rebate of more than all", rebate("a", 3, 2)},
		{"a rebate of 0 in 0", rebate("a", 0, 0)},
		{"a least amount with D", withD(least("a", 1), 1)},
		{"a least amount with a way", withWay(least("a", 1), 3)},
		{"a least amount with a term", withTerm(least("a", 1), flat(0))},
		{"a greatest amount with D", withD(most("a", 1), -1)},
		{"a greatest amount with a way", withWay(most("a", 1), -1)},
		{"a greatest amount with a term", withTerm(most("a", 1), flat(0))},
		{"rounding with D", withD(round("a", 1, 1), 1)},
		{"rounding with a term", withTerm(round("a", 1, 1), flat(0))},
		{"rounding to 0", round("a", 1, 0)},
		{"rounding in no way", round("a", 0, 1)},
		{"rounding in a fourth way", round("a", 4, 1)},
	}
	for _, name := range wrongNames() {
		list = append(list, wrongRule{"the due", due(name, flat(1))}, wrongRule{"the due", most(name, 1)}, wrongRule{"a grade", of(one, "b", name)})
	}
	for _, n := range []int{-1, minInt, maxInt} {
		list = append(list, wrongRule{"the kind", withKind(most("a", 1), n)}, wrongRule{"the way", round("a", n, 1)})
	}
	list = append(list, wrongRule{"the kind", withKind(most("a", 1), 6)})
	for _, n := range []int{-1, api.MaxPay + 1, minInt, maxInt} {
		for _, r := range []api.Rule{due("a", flat(n)), due("a", flat(1), per(1, n, 0, 1)), least("a", n), most("a", n), round("a", 1, n)} {
			list = append(list, wrongRule{"pence", r})
		}
	}
	for _, n := range []int{-1, minInt} {
		list = append(list, wrongRule{"the share", rebate("a", n, 2)}, wrongRule{"the share", rebate("a", 0, n)}, wrongRule{"the shares", rebate("a", n, n)})
	}
	for _, n := range []int{api.MaxShare + 1, maxInt} {
		list = append(list, wrongRule{"the shares", rebate("a", 1, n)}, wrongRule{"the share", rebate("a", n, api.MaxShare)})
	}
	for _, x := range wrongTerms() {
		list = append(list, wrongRule{"a term", due("a", x)}, wrongRule{"the last of six terms", due("a", flat(1), flat(1), flat(1), flat(1), flat(1), x)})
	}
	return list
}

func wrongTerms() []api.Term {
	return []api.Term{
		per(0, 1, 1, 0), per(0, 1, 0, 1), per(0, 1, 0, api.MaxMass), per(0, 1, -1, 0), per(0, 1, 0, -1), per(0, 1, 1, 2),
		per(1, 1, 0, 0), per(1, 1, 5, 5), per(1, 1, 6, 5), per(1, 1, -1, 5), per(1, 1, 0, api.MaxMass+1), per(1, 1, api.MaxMass, api.MaxMass),
		per(-1, 1, 0, 5), per(-1, 1, 0, 0), per(api.MaxMass+1, 1, 0, 5), per(maxInt, 1, 0, 5), per(minInt, 1, 0, 5),
		per(1, 1, minInt, maxInt), per(1, 1, 0, maxInt), per(1, 1, minInt, 5), per(1, 1, 0, minInt), per(1, 1, -5, -2),
	}
}

// P7.1: tariffs that are valid, with numbers as small and as great as can be.
func TestCheckOfValidTariffs(t *testing.T) {
	list := []api.Tariff{{}, example(), full(), rules(full().Rules[:29]...), {Rules: []api.Rule{}}}
	for _, r := range []api.Rule{
		due("a", flat(0)), due("a", flat(api.MaxPay)), due("a", make([]api.Term, api.MaxTerms)...), due("a", flat(1), flat(1)),
		due("a", per(1, 0, 0, 1)), due("a", per(api.MaxMass, api.MaxPay, api.MaxMass-1, api.MaxMass)), due("a", per(5, 1, 0, 3)),
		rebate("a", 0, 1), rebate("a", 1, 1), rebate("a", api.MaxShare, api.MaxShare), rebate("a", 0, api.MaxShare),
		least("a", 0), least("a", api.MaxPay), most("a", 0), most("a", api.MaxPay),
		round("a", api.WayUp, 1), round("a", api.WayDown, api.MaxPay), round("a", api.WayNear, 2),
		of(least("a", 1), fullNames('g', api.MaxGrades)...), of(most("a", 1), "a"), of(rebate("a", 1, 2), []string{}...),
		{Kind: api.RuMost, Due: "a", Terms: []api.Term{}},
	} {
		list = append(list, rules(r), rules(r, r))
	}
	for _, name := range goodNames() {
		list = append(list, rules(most(name, 1)), rules(of(most("a", 1), "b", name)))
	}
	for i, x := range list {
		equal(t, tariff.Check(x), api.OK, i, x)
	}
}

// P7.1: each thing by which a tariff is not formed, in the first, in a middle and in the last rule.
func TestCheckOfWrongTariffs(t *testing.T) {
	fine := most("a", 1)
	for _, x := range wrongRules() {
		for i, l := range []api.Tariff{rules(x.Rule), rules(x.Rule, fine), rules(fine, x.Rule), rules(fine, x.Rule, fine)} {
			equal(t, tariff.Check(l), api.ErrForm, x.name, i, l)
		}
	}
}

// P7.1, R3: too many rules come ahead of rules that are not formed.
func TestCheckOfTooManyRules(t *testing.T) {
	equal(t, tariff.Check(rules(append(full().Rules, most("a", 1))...)), api.ErrLimit)
	equal(t, tariff.Check(rules(make([]api.Rule, api.MaxRules+1)...)), api.ErrLimit)
	equal(t, tariff.Check(rules(make([]api.Rule, api.MaxRules)...)), api.ErrForm)
	for _, x := range wrongRules() {
		equal(t, tariff.Check(rules(append(full().Rules, x.Rule)...)), api.ErrLimit, x.name)
	}
}

// P7.2: the dues and grades of the examples, and of nothing.
func TestDuesAndGradesOfExamples(t *testing.T) {
	is := func(x api.Tariff, dues, grades []string) {
		l, e := tariff.Dues(x)
		good(t, e)
		sameList(t, l, dues)
		l, e = tariff.Grades(x)
		good(t, e)
		sameList(t, l, grades)
	}
	is(example(), []string{"bond", "wharf"}, []string{"flint", "shingle"})
	is(api.Tariff{}, nil, nil)
	is(rules(most("b", 1), least("a", 1)), []string{"a", "b"}, nil)
	is(rules(of(most("b", 1), "z", "b", "a"), of(round("b1", 1, 1), "b"), of(rebate("b", 1, 2), "a", "a1")), []string{"b", "b1"}, []string{"a", "a1", "b", "z"})
	is(full(), fullNames('d', 1), fullNames('g', api.MaxGrades))
}

// P7.2: each due and grade once, sorted, for rolled tariffs.
func TestDuesAndGrades(t *testing.T) {
	met := map[int]int{}
	forTariffs(500, 6, func(d *dice, x api.Tariff) {
		l, e := tariff.Dues(x)
		good(t, e, x)
		sameList(t, l, duesByWords(x), x)
		met[len(l)]++
		l, e = tariff.Grades(x)
		good(t, e, x)
		sameList(t, l, gradesByWords(x), x)
		equal(t, slices.Contains(l, ""), false, x)
	})
	enough(t, met, 20, 0, 1, 2, 3)
}
