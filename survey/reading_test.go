package survey_test

import (
	"testing"

	"kentledge/api"
	"kentledge/survey"
)

// changed is the survey of the example with something else.
func changed(f func(x *api.Survey)) api.Survey {
	x := seven()
	f(&x)
	return x
}

// P4.3
func TestRightSurveys(t *testing.T) {
	for name, f := range map[string]func(x *api.Survey){
		"the example":         func(x *api.Survey) {},
		"the least ID":        func(x *api.Survey) { x.ID = 1 },
		"the greatest ID":     func(x *api.Survey) { x.ID = api.MaxID },
		"the last minute":     func(x *api.Survey) { x.Tick = api.MaxTick },
		"marks of 0":          func(x *api.Survey) { x.Marks = [6]api.Span{} },
		"the greatest marks":  func(x *api.Survey) { x.Marks = level(1, at(api.MaxY)).Marks },
		"the widest marks":    func(x *api.Survey) { x.Marks = level(1, span(100, 499)).Marks },
		"the widest ones low": func(x *api.Survey) { x.Marks = level(1, span(0, 399)).Marks },
		"widest and greatest": func(x *api.Survey) { x.Marks = level(1, span(api.MaxY-399, api.MaxY)).Marks },
		"the greatest sag":    func(x *api.Survey) { x.Sag = api.MaxSag },
		"all densities":       func(x *api.Survey) { x.Shown = span(0, 2000) },
		"the lightest water":  func(x *api.Survey) { x.Shown = at(901) },
		"the densest water":   func(x *api.Survey) { x.Shown = at(1103) },
	} {
		equal(t, survey.Check(bulbs(), changed(f)), api.OK, name)
	}
}

// P4.3
func TestWrongSurveys(t *testing.T) {
	for name, f := range map[string]func(x *api.Survey){
		"ID of 0":                func(x *api.Survey) { x.ID = 0 },
		"ID below":               func(x *api.Survey) { x.ID = -1 },
		"ID beyond":              func(x *api.Survey) { x.ID = api.MaxID + 1 },
		"before the beginning":   func(x *api.Survey) { x.Tick = -1 },
		"behind the end":         func(x *api.Survey) { x.Tick = api.MaxTick + 1 },
		"sag below":              func(x *api.Survey) { x.Sag = -1 },
		"sag beyond":             func(x *api.Survey) { x.Sag = api.MaxSag + 1 },
		"the greatest sag":       func(x *api.Survey) { x.Sag = maxInt },
		"Shown is no span":       func(x *api.Survey) { x.Shown = span(1004, 1003) },
		"Shown below":            func(x *api.Survey) { x.Shown = span(-1, 1003) },
		"Shown beyond":           func(x *api.Survey) { x.Shown = span(1003, 2001) },
		"Shown all beyond":       func(x *api.Survey) { x.Shown = at(2001) },
		"Shown of all integers":  func(x *api.Survey) { x.Shown = span(minInt, maxInt) },
		"Shown of none, wrapped": func(x *api.Survey) { x.Shown = span(maxInt, minInt) },
	} {
		equal(t, survey.Check(bulbs(), changed(f)), api.ErrArg, name)
	}
	for i := range 6 {
		for _, p := range []api.Span{span(252, 251), span(-1, 251), span(-1, -1), span(api.MaxY-9, api.MaxY+1), at(api.MaxY + 1), span(100, 500), span(minInt, maxInt), span(maxInt, minInt), span(0, 400)} {
			x := changed(func(x *api.Survey) { x.Marks[i], x.Sag = p, api.MaxSag })
			equal(t, survey.Check(bulbs(), x), api.ErrArg, i, p)
		}
	}
}

// P4.3: water without a density, and marks without draughts.
func TestSurveysThatClash(t *testing.T) {
	for _, c := range []struct {
		name string
		f    func(x *api.Survey)
		want api.Errno
	}{
		{"just light enough", func(x *api.Survey) { x.Shown = at(901) }, api.OK},
		{"too light", func(x *api.Survey) { x.Shown = at(900) }, api.ErrClash},
		{"just dense", func(x *api.Survey) { x.Shown = at(1103) }, api.OK},
		{"too dense", func(x *api.Survey) { x.Shown = at(1104) }, api.ErrClash},
		{"nothing", func(x *api.Survey) { x.Shown = at(0) }, api.ErrClash},
		{"bent just down enough", func(x *api.Survey) { x.Marks, x.Sag = [6]api.Span{2: at(4), 3: at(4)}, 4 }, api.OK},
		{"bent down", func(x *api.Survey) { x.Marks, x.Sag = [6]api.Span{2: at(4), 3: at(4)}, 3 }, api.ErrClash},
		{"bent just up enough", func(x *api.Survey) { x.Marks, x.Sag = [6]api.Span{0: at(4), 5: at(4)}, 2 }, api.OK},
		{"bent up", func(x *api.Survey) { x.Marks, x.Sag = [6]api.Span{0: at(4), 5: at(4)}, 1 }, api.ErrClash},
		{"an odd sum, not bent", func(x *api.Survey) { x.Marks = [6]api.Span{1: at(1), 2: span(0, 1)} }, api.ErrClash},
		{"an odd sum, bent", func(x *api.Survey) { x.Marks, x.Sag = [6]api.Span{1: at(1), 2: span(0, 1)}, 1 }, api.OK},
		{"an even sum, not bent", func(x *api.Survey) { x.Marks = [6]api.Span{1: at(2), 2: span(0, 1)} }, api.OK},
	} {
		equal(t, survey.Check(bulbs(), changed(c.f)), c.want, c.name)
	}
}

// P4.3, R3: the errors in their order. Each survey has the error, and all that come behind it.
func TestOrderOfErrorsOfSurveys(t *testing.T) {
	b := bulbs()
	b.Hydros = append(b.Hydros, api.Hydro{ID: 2, Off: at(0)})
	b.Glasses = append(b.Glasses, api.Glass{ID: 3, Hydro: 2, Dense: 1000, Shown: at(1001)})
	x := api.Survey{ID: 0, Marks: [6]api.Span{0: at(9)}, Hydro: 2, Shown: at(0)}
	wrong := bulbs()
	wrong.Glasses = append(wrong.Glasses, wrong.Glasses[0])
	equal(t, survey.Check(wrong, x), api.ErrTwice, "the hydrometers before all")
	equal(t, survey.Check(wrong, seven()), api.ErrTwice, "the hydrometers alone")
	equal(t, survey.Check(b, x), api.ErrArg)
	x.Hydro = 7
	equal(t, survey.Check(b, x), api.ErrArg)
	x.ID = 1
	equal(t, survey.Check(b, x), api.ErrNone, "there is no such hydrometer")
	x.Hydro = 2
	equal(t, survey.Check(b, x), api.ErrClash, "its glasses clash")
	x.Shown, x.Marks[0] = at(1000), at(0)
	equal(t, survey.Check(b, x), api.ErrClash, "its glasses clash, and nothing else does")
	x.Hydro = 1
	equal(t, survey.Check(b, x), api.OK)
	equal(t, survey.Check(api.Bulbs{}, x), api.ErrNone, "no hydrometers")
}

// P4.3: the widest and the narrowest water.
func TestDensity(t *testing.T) {
	for _, c := range []struct {
		shown, want api.Span
		e           api.Errno
	}{
		{at(1003), span(1000, 1002), api.OK},
		{span(1001, 1005), span(998, 1004), api.OK},
		{span(0, 2000), span(900, 1100), api.OK},
		{span(800, 1000), span(900, 999), api.OK},
		{span(1000, 1200), span(997, 1100), api.OK},
		{at(903), span(900, 902), api.OK},
		{at(902), span(900, 901), api.OK},
		{at(901), at(900), api.OK},
		{at(900), api.Span{}, api.ErrClash},
		{at(1101), span(1098, 1100), api.OK},
		{at(1102), span(1099, 1100), api.OK},
		{at(1103), at(1100), api.OK},
		{at(1104), api.Span{}, api.ErrClash},
	} {
		d, e := survey.Density(bulbs(), changed(func(x *api.Survey) { x.Shown = c.shown }))
		equal(t, d, c.want, c)
		equal(t, e, c.e, c)
	}
}

// P4.4: the example, and how far she bends.
func TestBends(t *testing.T) {
	x := seven()
	for _, c := range []struct {
		sag  int
		d    [6]int
		want bool
	}{
		{0, [6]int{240, 240, 250, 250, 260, 260}, true},
		{0, [6]int{240, 240, 250, 250, 258, 258}, false},
		{1, [6]int{240, 240, 250, 250, 258, 258}, true},
		{0, [6]int{240, 240, 250, 250, 258, 261}, false},
		{1, [6]int{240, 240, 250, 252, 258, 262}, true},
		{1, [6]int{240, 241, 250, 252, 258, 260}, false},
		{1, [6]int{241, 241, 250, 252, 258, 260}, true},
		{0, [6]int{244, 244, 252, 252, 260, 260}, true},
		{1, [6]int{244, 244, 250, 250, 258, 258}, true},
		{1, [6]int{244, 244, 250, 250, 258, 259}, false},
		{0, [6]int{239, 241, 250, 250, 260, 260}, false},
		{0, [6]int{245, 240, 250, 250, 258, 257}, false},
		{0, [6]int{240, 245, 250, 250, 258, 257}, false},
		{0, [6]int{240, 240, 249, 251, 260, 260}, false},
		{0, [6]int{240, 240, 253, 250, 263, 263}, false},
		{0, [6]int{240, 240, 250, 253, 262, 262}, false},
		{0, [6]int{240, 240, 250, 250, 263, 257}, false},
		{0, [6]int{240, 240, 250, 250, 257, 263}, false},
		{-1, [6]int{240, 240, 250, 250, 260, 260}, false},
		{minInt, [6]int{240, 240, 250, 250, 260, 260}, true},
		{maxInt, [6]int{240, 240, 250, 250, 260, 260}, false},
	} {
		x.Sag = c.sag
		equal(t, survey.Bends(x, c.d), c.want, c)
	}
}

// P4.4: nothing else of the survey is looked at, and the integers wrap around.
func TestBendsOfAnything(t *testing.T) {
	x := seven()
	x.ID, x.Tick, x.Hydro, x.Shown = -1, -1, -1, span(1, 0)
	equal(t, survey.Bends(x, [6]int{240, 240, 250, 250, 260, 260}), true)
	all := api.Survey{}
	for i := range all.Marks {
		all.Marks[i] = span(minInt, maxInt)
	}
	equal(t, survey.Bends(api.Survey{}, [6]int{}), true)
	equal(t, survey.Bends(api.Survey{}, [6]int{5: 1}), false)
	for _, c := range []struct {
		sag  int
		d    [6]int
		want bool
	}{
		{0, [6]int{2: minInt}, true},                                   // twice that is 0
		{0, [6]int{2: maxInt, 3: 1}, true},                             // likewise
		{0, [6]int{2: maxInt}, false},                                  // -2
		{1, [6]int{2: maxInt}, true},                                   // -2
		{0, [6]int{0: maxInt, 1: maxInt, 4: maxInt, 5: maxInt}, false}, // 4
		{1, [6]int{0: maxInt, 1: maxInt, 4: maxInt, 5: maxInt}, true},  // 4
		{0, [6]int{0: minInt, 5: minInt}, true},                        // 0
		{0, [6]int{0: minInt}, false},                                  // minInt
		{1 << 61, [6]int{0: minInt}, true},                             // both are minInt, and so is what bends
		{1 << 61, [6]int{}, false},                                     // both are minInt
		{1<<61 - 1, [6]int{0: maxInt - 3}, true},                       // -(2^63 - 4)
		{1<<61 - 1, [6]int{0: maxInt - 2}, false},                      // -(2^63 - 3)
		{1<<61 - 1, [6]int{0: minInt + 4}, true},                       // 2^63 - 4
		{1<<61 - 1, [6]int{0: minInt + 3}, false},                      // 2^63 - 3
		{1 << 62, [6]int{}, true},                                      // 4 Sag is 0
		{1 << 62, [6]int{0: 1}, false},                                 // 4 Sag is 0
		{1<<62 + 1, [6]int{0: 1}, true},                                // 4 Sag is 4
		{3 << 60, [6]int{}, false},                                     // 4 Sag is less than 0
		{-(3 << 60), [6]int{}, true},                                   // 4 Sag is greater than 0
		{-(3 << 60), [6]int{4: 1 << 62}, true},                         // 4 Sag is 2^62
		{-(3 << 60), [6]int{4: 1<<62 + 1}, false},                      // 4 Sag is 2^62
		{0, [6]int{1: 1 << 62, 2: 1 << 61}, true},                      // 0, without wrapping
		{0, [6]int{1: minInt, 2: 1 << 61, 3: 1 << 61, 4: 0}, true},     // 2^63 wraps to the same as minInt
		{-1, [6]int{}, false},                                          // from 4 to -4
		{-1, [6]int{0: 4}, false},                                      // from 4 to -4
	} {
		all.Sag = c.sag
		equal(t, survey.Bends(all, c.d), c.want, c)
	}
}

// P4.4: by the words, with all integers of spans that may be none.
func TestBendsByTheWords(t *testing.T) {
	d := &dice{state: 23}
	met := map[bool]int{}
	for range 3000 {
		x := api.Survey{Sag: d.between(-1, 3)}
		var at [6]int
		inside := true
		for i := range x.Marks {
			x.Marks[i] = span(d.between(-4, 0), d.between(2, 6))
			at[i] = d.between(-3, 5)
			inside = inside && x.Marks[i].Lo <= at[i] && at[i] <= x.Marks[i].Hi
		}
		want := inside && bendsByWords(x, at)
		equal(t, survey.Bends(x, at), want, x, at)
		met[want]++
	}
	enough(t, met, 100, true, false)
}

// P4.4: the example, with what it bends.
func TestSixteenAndEnds(t *testing.T) {
	for _, c := range []struct {
		sag  int
		want api.Span
	}{
		{0, span(4000, 4032)}, {1, span(3996, 4036)}, {2, span(3996, 4036)}, {api.MaxSag, span(3996, 4036)},
	} {
		x := changed(func(x *api.Survey) { x.Sag = c.sag })
		got, e := survey.Sixteen(bulbs(), x)
		equal(t, got, c.want, c)
		equal(t, e, api.OK, c)
		low, high, e := survey.Ends(bulbs(), x)
		equal(t, e, api.OK, c)
		for _, d := range [2][6]int{low, high} {
			equal(t, survey.Bends(x, d), true, c, d)
		}
		equal(t, sixteenOf(low), c.want.Lo, c)
		equal(t, sixteenOf(high), c.want.Hi, c)
	}
}

// sound fails unless Sixteen and Ends of a valid survey have the least and the greatest of all means.
func sound(t *testing.T, b api.Bulbs, x api.Survey, all []int) {
	t.Helper()
	got, e := survey.Sixteen(b, x)
	good(t, e, b, x)
	equal(t, got, ends(all), x)
	low, high, e := survey.Ends(b, x)
	good(t, e, b, x)
	equal(t, survey.Bends(x, low), true, x, low)
	equal(t, survey.Bends(x, high), true, x, high)
	equal(t, sixteenOf(low), got.Lo, x, low)
	equal(t, sixteenOf(high), got.Hi, x, high)
}

// P4.3, P4.4, P4.12: all draughts are tried.
func TestReadingsByTheWords(t *testing.T) {
	d := &dice{state: 29}
	met := map[string]int{}
	for range 3000 {
		b := d.bulbs(5)
		x := api.Survey{ID: 1, Sag: d.between(0, 9) / 4, Hydro: d.between(1, 3), Shown: d.span(890, 912)}
		if d.between(0, 1) == 0 {
			x.Shown = d.span(1088, 1112)
		}
		base := d.between(0, 9) * 10
		for i := range x.Marks {
			x.Marks[i] = d.around(base+d.between(0, 3), 2)
		}
		density, wet := densityByWords(b, x)
		all := sixteensByWords(x)
		if !wet || len(all) == 0 {
			equal(t, survey.Check(b, x), api.ErrClash, b, x)
			for _, e := range readingErrors(t, b, x) {
				equal(t, e, api.ErrClash, b, x)
			}
			met["no density"] += len(all) / max(1, len(all))
			if wet {
				met["no draughts"]++
			}
			continue
		}
		met["valid"]++
		equal(t, survey.Check(b, x), api.OK, b, x)
		got, e := survey.Density(b, x)
		equal(t, got, density, b, x)
		equal(t, e, api.OK, b, x)
		sound(t, b, x, all)
	}
	enough(t, met, 200, "valid", "no density", "no draughts")
}

// readingErrors returns the errors of the functions that are given a survey without a ship; it fails unless all else is zero.
func readingErrors(t *testing.T, b api.Bulbs, x api.Survey) [3]api.Errno {
	t.Helper()
	density, e := survey.Density(b, x)
	equal(t, density, api.Span{}, b, x)
	sixteen, f := survey.Sixteen(b, x)
	equal(t, sixteen, api.Span{}, b, x)
	low, high, g := survey.Ends(b, x)
	equal(t, low, [6]int{}, b, x)
	equal(t, high, [6]int{}, b, x)
	return [3]api.Errno{e, f, g}
}

// P4.4, P4.12: marks as wide as can be, and as deep, with all sums.
func TestWideMarks(t *testing.T) {
	d := &dice{state: 31}
	for range 40 {
		x := api.Survey{ID: 1, Sag: d.between(0, 2) * d.between(0, api.MaxSag/2), Hydro: 1, Shown: at(1000)}
		base := d.between(0, 1) * (api.MaxY - 1000)
		for i := range x.Marks {
			lo := base + d.between(0, 600)
			x.Marks[i] = span(lo, lo+d.between(0, api.MaxWaves-1))
		}
		all := sixteensBySums(x)
		if len(all) == 0 {
			equal(t, survey.Check(exact(), x), api.ErrClash, x)
			continue
		}
		sound(t, exact(), x, all)
	}
	deep := level(1, span(api.MaxY-399, api.MaxY))
	sound(t, exact(), deep, []int{16 * (api.MaxY - 399), 16 * api.MaxY})
}
