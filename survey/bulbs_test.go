package survey_test

import (
	"slices"
	"testing"

	"kentledge/api"
	"kentledge/survey"
)

// changedBulbs are those of the example with something else.
func changedBulbs(f func(b *api.Bulbs)) api.Bulbs {
	b := bulbs()
	f(&b)
	return b
}

// many are as many hydrometers and glasses as there can be.
func many() api.Bulbs {
	var b api.Bulbs
	for i := range api.MaxHydros {
		b.Hydros = append(b.Hydros, api.Hydro{ID: i + 1, Off: span(-api.MaxOff, api.MaxOff)})
	}
	for i := range api.MaxGlasses {
		b.Glasses = append(b.Glasses, api.Glass{ID: i + 1, Hydro: i%api.MaxHydros + 1, Dense: 1000, Shown: span(0, 2000)})
	}
	return b
}

// P4.1
func TestRightBulbs(t *testing.T) {
	equal(t, survey.CheckBulbs(api.Bulbs{}), api.OK, "none at all")
	equal(t, survey.CheckBulbs(many()), api.OK, "as many as can be")
	for name, f := range map[string]func(b *api.Bulbs){
		"the example": func(b *api.Bulbs) {},
		"no glass":    func(b *api.Bulbs) { b.Glasses = nil },
		"the greatest IDs": func(b *api.Bulbs) {
			b.Hydros[0].ID, b.Glasses[0].ID, b.Glasses[0].Hydro = api.MaxID, api.MaxID, api.MaxID
		},
		"the least IDs":  func(b *api.Bulbs) { b.Glasses[0].ID = 1 },
		"widest Off":     func(b *api.Bulbs) { b.Hydros[0].Off = span(-100, 100) },
		"least Off":      func(b *api.Bulbs) { b.Hydros[0].Off = at(-100) },
		"greatest Off":   func(b *api.Bulbs) { b.Hydros[0].Off = at(100) },
		"lightest glass": func(b *api.Bulbs) { b.Glasses[0].Dense = 900 },
		"densest glass":  func(b *api.Bulbs) { b.Glasses[0].Dense = 1100 },
		"widest Shown":   func(b *api.Bulbs) { b.Glasses[0].Shown = span(0, 2000) },
		"least Shown":    func(b *api.Bulbs) { b.Glasses[0].Shown = at(0) },
		"greatest Shown": func(b *api.Bulbs) { b.Glasses[0].Shown = at(2000) },
		"a clash":        func(b *api.Bulbs) { b.Glasses[0].Shown = at(1500) },
	} {
		equal(t, survey.CheckBulbs(changedBulbs(f)), api.OK, name)
	}
}

// P4.1
func TestWrongBulbs(t *testing.T) {
	for name, f := range map[string]func(b *api.Bulbs){
		"ID of a hydrometer of 0":   func(b *api.Bulbs) { b.Hydros[0].ID = 0 },
		"ID of a hydrometer below":  func(b *api.Bulbs) { b.Hydros[0].ID = -1 },
		"ID of a hydrometer beyond": func(b *api.Bulbs) { b.Hydros[0].ID = api.MaxID + 1 },
		"Off is no span":            func(b *api.Bulbs) { b.Hydros[0].Off = span(1, 0) },
		"Off is none at all":        func(b *api.Bulbs) { b.Hydros[0].Off = span(maxInt, minInt) },
		"Off below":                 func(b *api.Bulbs) { b.Hydros[0].Off = span(-101, 5) },
		"Off beyond":                func(b *api.Bulbs) { b.Hydros[0].Off = span(-5, 101) },
		"Off all below":             func(b *api.Bulbs) { b.Hydros[0].Off = at(-101) },
		"Off all beyond":            func(b *api.Bulbs) { b.Hydros[0].Off = at(101) },
		"Off of all integers":       func(b *api.Bulbs) { b.Hydros[0].Off = span(minInt, maxInt) },
		"ID of a glass of 0":        func(b *api.Bulbs) { b.Glasses[0].ID = 0 },
		"ID of a glass below":       func(b *api.Bulbs) { b.Glasses[0].ID = minInt },
		"ID of a glass beyond":      func(b *api.Bulbs) { b.Glasses[0].ID = api.MaxID + 1 },
		"light glass":               func(b *api.Bulbs) { b.Glasses[0].Dense = 899 },
		"dense glass":               func(b *api.Bulbs) { b.Glasses[0].Dense = 1101 },
		"Shown is no span":          func(b *api.Bulbs) { b.Glasses[0].Shown = span(1002, 1001) },
		"Shown below":               func(b *api.Bulbs) { b.Glasses[0].Shown = span(-1, 1000) },
		"Shown beyond":              func(b *api.Bulbs) { b.Glasses[0].Shown = span(1000, 2001) },
		"Shown all beyond":          func(b *api.Bulbs) { b.Glasses[0].Shown = at(2001) },
		"Shown of all integers":     func(b *api.Bulbs) { b.Glasses[0].Shown = span(minInt, maxInt) },
	} {
		equal(t, survey.CheckBulbs(changedBulbs(f)), api.ErrArg, name)
	}
	for _, hydro := range []int{0, -1, 2, maxInt, minInt} {
		equal(t, survey.CheckBulbs(changedBulbs(func(b *api.Bulbs) { b.Glasses[0].Hydro = hydro })), api.ErrNone, hydro)
	}
	b := many()
	b.Hydros = append(b.Hydros, api.Hydro{ID: 9})
	equal(t, survey.CheckBulbs(b), api.ErrLimit, "a hydrometer too many")
	b = many()
	b.Glasses = append(b.Glasses, api.Glass{ID: 41, Hydro: 1, Dense: 1000, Shown: at(1000)})
	equal(t, survey.CheckBulbs(b), api.ErrLimit, "a glass too many")
	for i := 1; i < api.MaxHydros; i++ {
		for k := range i {
			b := many()
			b.Hydros[i].ID = b.Hydros[k].ID
			equal(t, survey.CheckBulbs(b), api.ErrTwice, "hydrometers", i, k)
		}
	}
	for i := 1; i < api.MaxGlasses; i++ {
		for k := range i {
			b := many()
			b.Glasses[i].ID = b.Glasses[k].ID
			equal(t, survey.CheckBulbs(b), api.ErrTwice, "glasses", i, k)
		}
	}
	b = many()
	b.Glasses[39].Shown = span(1, 0)
	equal(t, survey.CheckBulbs(b), api.ErrArg, "the last glass")
	b = many()
	b.Hydros[7].Off = span(1, 0)
	equal(t, survey.CheckBulbs(b), api.ErrArg, "the last hydrometer")
	b = many()
	b.Glasses[20].Hydro = 9
	equal(t, survey.CheckBulbs(b), api.ErrNone, "a glass of no hydrometer")
}

// P4.1, R3: all errors of an element come before those of the next one. Each has the error, and all that come behind it.
func TestOrderOfErrorsOfBulbs(t *testing.T) {
	good, glass := api.Hydro{ID: 1}, api.Glass{ID: 1, Hydro: 1, Dense: 1000}
	wrong := api.Glass{ID: 2, Hydro: 5, Dense: 1101}
	lost := api.Glass{ID: 1, Hydro: 5, Dense: 1000}
	for i, c := range []struct {
		b    api.Bulbs
		want api.Errno
	}{
		{api.Bulbs{Hydros: make([]api.Hydro, 9), Glasses: []api.Glass{wrong}}, api.ErrLimit},
		{api.Bulbs{Hydros: []api.Hydro{{}}, Glasses: make([]api.Glass, 41)}, api.ErrLimit},
		{api.Bulbs{Hydros: []api.Hydro{{}, good, good}, Glasses: []api.Glass{lost}}, api.ErrArg},
		{api.Bulbs{Hydros: []api.Hydro{good, good, {}}, Glasses: []api.Glass{wrong}}, api.ErrTwice},
		{api.Bulbs{Hydros: []api.Hydro{good, {}, good}, Glasses: []api.Glass{lost}}, api.ErrArg},
		{api.Bulbs{Hydros: []api.Hydro{good, {ID: 1, Off: span(1, 0)}}}, api.ErrArg},
		{api.Bulbs{Hydros: []api.Hydro{good}, Glasses: []api.Glass{glass, wrong, glass}}, api.ErrArg},
		{api.Bulbs{Hydros: []api.Hydro{good}, Glasses: []api.Glass{glass, lost, wrong}}, api.ErrNone},
		{api.Bulbs{Hydros: []api.Hydro{good}, Glasses: []api.Glass{glass, glass, lost, wrong}}, api.ErrTwice},
		{api.Bulbs{Hydros: []api.Hydro{good}, Glasses: []api.Glass{glass, {ID: 1, Hydro: 1, Dense: 1000, Shown: span(1, 0)}}}, api.ErrArg},
		{api.Bulbs{Hydros: []api.Hydro{good}, Glasses: []api.Glass{glass, {ID: 2, Hydro: 1, Dense: 1000}}}, api.OK},
	} {
		equal(t, survey.CheckBulbs(c.b), c.want, i)
	}
}

// P4.1, P4.2: the example, and what can be read of its hydrometer besides.
func TestBulbsOfTheExample(t *testing.T) {
	b := bulbs()
	off, e := survey.Off(b, 1)
	equal(t, off, span(1, 3))
	equal(t, e, api.OK)
	b.Glasses = nil
	off, e = survey.Off(b, 1)
	equal(t, off, span(-5, 5), "no glass")
	equal(t, e, api.OK)
	for _, c := range []struct {
		glasses []api.Glass
		off     api.Span
		clashes [][2]int
		blamed  []int
	}{
		{[]api.Glass{{Shown: span(1005, 1010)}}, at(5), nil, nil},
		{[]api.Glass{{Shown: span(1006, 1010)}}, api.Span{}, [][2]int{{0, 1}}, []int{1}},
		{[]api.Glass{{Shown: span(990, 995)}}, at(-5), nil, nil},
		{[]api.Glass{{Shown: span(990, 994)}}, api.Span{}, [][2]int{{0, 1}}, []int{1}},
		{[]api.Glass{{Shown: span(0, 2000)}}, span(-5, 5), nil, nil},
		{[]api.Glass{{Shown: span(999, 1000)}, {Shown: span(1000, 1001)}}, at(0), nil, nil},
		{[]api.Glass{{Shown: span(998, 999)}, {Shown: span(1000, 1001)}}, api.Span{}, [][2]int{{1, 2}}, []int{1, 2}},
		{[]api.Glass{{Shown: at(999)}, {Shown: at(1000)}, {Shown: at(1001)}}, api.Span{}, [][2]int{{1, 2}, {1, 3}, {2, 3}}, nil},
		{[]api.Glass{{Shown: at(999)}, {Shown: at(1000)}, {Shown: span(999, 1000)}}, api.Span{}, [][2]int{{1, 2}}, []int{1, 2}},
		{[]api.Glass{{Shown: at(999)}, {Shown: at(1000)}, {Shown: at(1000)}}, api.Span{}, [][2]int{{1, 2}, {1, 3}}, []int{1}},
		{[]api.Glass{{Shown: at(1006)}, {Shown: at(1005)}}, api.Span{}, [][2]int{{0, 1}, {1, 2}}, []int{1}},
		{[]api.Glass{{Shown: at(1006)}, {Shown: at(1006)}}, api.Span{}, [][2]int{{0, 1}, {0, 2}}, nil},
		{[]api.Glass{{Shown: at(1006)}, {Shown: at(994)}}, api.Span{}, [][2]int{{0, 1}, {0, 2}, {1, 2}}, nil},
	} {
		b := bulbs()
		b.Glasses = nil
		for i, g := range c.glasses {
			b.Glasses = append(b.Glasses, api.Glass{ID: i + 1, Hydro: 1, Dense: 1000, Shown: g.Shown})
		}
		off, e := survey.Off(b, 1)
		equal(t, off, c.off, c)
		equal(t, e == api.ErrClash, c.clashes != nil, c)
		pairs, e := survey.Clashes(b, 1)
		sameList(t, pairs, c.clashes, c)
		equal(t, e, api.OK, c)
		ids, e := survey.Blamed(b, 1)
		sameList(t, ids, c.blamed, c)
		equal(t, e, api.OK, c)
	}
}

// P4.1, P4.2: a hydrometer that there is not; glasses of others do not matter.
func TestOtherHydrometers(t *testing.T) {
	b := bulbs()
	b.Hydros = append(b.Hydros, api.Hydro{ID: 4, Off: span(-1, 1)}, api.Hydro{ID: 5, Off: at(7)})
	b.Glasses = append(b.Glasses, api.Glass{ID: 9, Hydro: 4, Dense: 1000, Shown: at(1009)}, api.Glass{ID: 1, Hydro: 4, Dense: 1000, Shown: at(1000)})
	off, e := survey.Off(b, 1)
	equal(t, off, span(1, 3))
	equal(t, e, api.OK)
	off, e = survey.Off(b, 5)
	equal(t, off, at(7))
	equal(t, e, api.OK)
	off, e = survey.Off(b, 4)
	equal(t, off, api.Span{})
	equal(t, e, api.ErrClash)
	for _, id := range []int{1, 5} {
		pairs, e := survey.Clashes(b, id)
		equal(t, len(pairs), 0, id)
		equal(t, e, api.OK, id)
		ids, e := survey.Blamed(b, id)
		equal(t, len(ids), 0, id)
		equal(t, e, api.OK, id)
	}
	pairs, e := survey.Clashes(b, 4)
	sameList(t, pairs, [][2]int{{0, 9}, {1, 9}})
	equal(t, e, api.OK)
	ids, e := survey.Blamed(b, 4)
	sameList(t, ids, []int{9})
	equal(t, e, api.OK)
	for _, id := range []int{0, 2, 3, 9, -1, minInt, maxInt} {
		off, e := survey.Off(b, id)
		equal(t, off, api.Span{}, id)
		equal(t, e, api.ErrNone, id)
		pairs, e := survey.Clashes(b, id)
		equal(t, len(pairs), 0, id)
		equal(t, e, api.ErrNone, id)
		ids, e := survey.Blamed(b, id)
		equal(t, len(ids), 0, id)
		equal(t, e, api.ErrNone, id)
	}
}

// clashesByWords returns the pairs of a hydrometer's glasses that no error serves, trying each error that there can be.
func clashesByWords(h api.Hydro, glasses []api.Glass) [][2]int {
	var pairs [][2]int
	for _, g := range glasses {
		if g.Hydro != h.ID {
			continue
		}
		if len(errorsByWords(h, []api.Glass{g})) == 0 {
			pairs = append(pairs, [2]int{0, g.ID})
		}
		for _, f := range glasses {
			if f.Hydro == h.ID && f.ID < g.ID && len(errorsByWords(api.Hydro{ID: h.ID, Off: span(-1100, 1100)}, []api.Glass{f, g})) == 0 {
				pairs = append(pairs, [2]int{f.ID, g.ID})
			}
		}
	}
	slices.SortFunc(pairs, func(p, q [2]int) int { return slices.Compare(p[:], q[:]) })
	return pairs
}

// blamedByWords returns the glasses without which alone a hydrometer can have an error, if it can have none with all.
func blamedByWords(h api.Hydro, glasses []api.Glass) []int {
	var ids []int
	if len(errorsByWords(h, glasses)) > 0 {
		return nil
	}
	for i, g := range glasses {
		if g.Hydro == h.ID && len(errorsByWords(h, slices.Delete(slices.Clone(glasses), i, i+1))) > 0 {
			ids = append(ids, g.ID)
		}
	}
	slices.Sort(ids)
	return ids
}

// P4.1, P4.2, P4.11: all errors are tried; she can have one exactly if no glasses contradict; those are blamed that stand in all pairs.
func TestBulbsByTheWords(t *testing.T) {
	d := &dice{state: 5}
	met := map[string]int{}
	for range 1500 {
		b := d.bulbs(9)
		good(t, survey.CheckBulbs(b), b)
		for _, h := range b.Hydros {
			all := errorsByWords(h, b.Glasses)
			off, e := survey.Off(b, h.ID)
			equal(t, off, ends(all), b, h)
			equal(t, e == api.OK, len(all) > 0, b, h)
			equal(t, e == api.ErrClash, len(all) == 0, b, h)
			pairs, e := survey.Clashes(b, h.ID)
			sameList(t, pairs, clashesByWords(h, b.Glasses), b, h)
			equal(t, e, api.OK, b, h)
			equal(t, len(pairs) == 0, len(all) > 0, b, h)
			ids, e := survey.Blamed(b, h.ID)
			sameList(t, ids, blamedByWords(h, b.Glasses), b, h)
			equal(t, e, api.OK, b, h)
			for _, g := range b.Glasses {
				inAll := len(pairs) > 0 && !slices.ContainsFunc(pairs, func(p [2]int) bool { return p[0] != g.ID && p[1] != g.ID })
				equal(t, slices.Contains(ids, g.ID), inAll, b, h, g)
			}
			switch {
			case len(all) > 0:
				met["some error"]++
			case len(ids) == 0:
				met["none is blamed"]++
			case len(ids) == 1:
				met["one is blamed"]++
			default:
				met["several are blamed"]++
			}
		}
	}
	enough(t, met, 100, "some error", "none is blamed", "one is blamed", "several are blamed")
}

// P4.2: sorted, also where the glasses are not.
func TestClashesAreSorted(t *testing.T) {
	b := many()
	for i := range b.Glasses {
		b.Glasses[i] = api.Glass{ID: 40 - i, Hydro: 3, Dense: 1000, Shown: at(800 + 10*i)}
	}
	pairs, e := survey.Clashes(b, 3)
	good(t, e)
	sameList(t, pairs, clashesByWords(b.Hydros[2], b.Glasses))
	equal(t, len(pairs), 40*39/2+19, "no two agree; 900 to 1100 are within Off")
	ids, e := survey.Blamed(b, 3)
	good(t, e)
	equal(t, len(ids), 0)
}
