package port

import (
	"cmp"
	"iter"
	"slices"

	"kentledge/api"
	"kentledge/flow"
	"kentledge/survey"
	"kentledge/tide"
)

// Fold returns what stands by some entries that were known at a minute, and the entries that do not.
func Fold(s api.Setting, l []api.Entered, known int) (api.Standing, []api.Entered, api.Errno) {
	if e := CheckSetting(s); e != api.OK {
		return api.Standing{}, nil, e
	}
	l = upTo(l, known)
	if e := checkEntries(s, l); e != api.OK {
		return api.Standing{}, nil, e
	}
	slices.SortFunc(l, func(a, b api.Entered) int {
		return cmp.Or(cmp.Compare(a.Wharf, b.Wharf), cmp.Compare(a.Line, b.Line))
	})
	d, refused := stand(s, l)
	return d, refused, api.OK
}

// upTo returns a list of the entries that are known at a minute.
func upTo(l []api.Entered, known int) []api.Entered {
	return slices.DeleteFunc(slices.Clone(l), func(x api.Entered) bool { return x.Tick > known })
}

func checkEntries(s api.Setting, l []api.Entered) api.Errno {
	if len(l) > api.MaxWharves*api.MaxLines {
		return api.ErrLimit
	}
	for i, x := range l {
		if !slices.Contains(s.Wharves, x.Wharf) || !within(x.Line, 1, api.MaxLines) || !within(x.Tick, 0, api.MaxTick) || !isEntry(x.Entry) {
			return api.ErrArg
		}
		if slices.ContainsFunc(l[:i], func(y api.Entered) bool { return y.Wharf == x.Wharf && y.Line == x.Line }) {
			return api.ErrTwice
		}
	}
	return api.OK
}

// counting yields the entries of a kind that count, in the order of the list, in which all are known.
func counting(l []api.Entered, kind int) iter.Seq[api.Entered] {
	return func(yield func(api.Entered) bool) {
		for _, x := range l {
			if x.Entry.Kind == kind && !isBack(l, x) && !yield(x) {
				return
			}
		}
	}
}

// isBack reports whether an entry is taken back.
func isBack(l []api.Entered, x api.Entered) bool {
	return slices.ContainsFunc(l, func(y api.Entered) bool {
		return y.Entry.Kind == api.EnBack && y.Wharf == x.Wharf && y.Entry.Line == x.Line
	})
}

// stand returns what stands by entries that have no error, in their order, and the entries that are refused.
func stand(s api.Setting, l []api.Entered) (api.Standing, []api.Entered) {
	f := &folder{setting: s}
	f.Bulbs.Hydros = slices.Clone(s.Hydros)
	f.Trade.Holders = slices.Clone(s.Holders)
	puts := map[int]func(api.Entry) bool{
		api.EnGlass:  f.putGlass,
		api.EnSurvey: f.putSurvey,
		api.EnMove:   f.putMove,
		api.EnGauge:  f.putGauge,
	}
	var refused []api.Entered
	for kind := api.EnGlass; kind <= api.EnGauge; kind++ {
		for x := range counting(l, kind) {
			if !puts[kind](x.Entry) {
				refused = append(refused, x)
			}
		}
	}
	return f.Standing, refused
}

// folder puts entries behind what stands, if they can be put there.
type folder struct {
	api.Standing
	setting api.Setting
}

func (f *folder) putGlass(x api.Entry) bool {
	b := f.Bulbs
	b.Glasses = append(b.Glasses, x.Glass)
	if survey.CheckBulbs(b) != api.OK {
		return false
	}
	if _, e := survey.Off(b, x.Glass.Hydro); e == api.ErrClash {
		return false
	}
	f.Bulbs = b
	return true
}

func (f *folder) putSurvey(x api.Entry) bool {
	if _, is := shipOf(f.setting.Ships, x.Ship); !is || survey.Check(f.Bulbs, x.Survey) != api.OK {
		return false
	}
	if slices.ContainsFunc(f.Surveys, func(y api.Surveyed) bool { return y.Survey.ID == x.Survey.ID }) {
		return false
	}
	if len(surveysOf(f.Standing, x.Ship, x.Load)) == api.MaxSurveys {
		return false
	}
	f.Surveys = append(f.Surveys, api.Surveyed{Ship: x.Ship, Load: x.Load, Survey: x.Survey})
	return true
}

func (f *folder) putMove(x api.Entry) bool {
	t := f.Trade
	t.Moves = append(t.Moves, x.Move)
	if flow.Check(t) != api.OK {
		return false
	}
	f.Trade = t
	return true
}

func (f *folder) putGauge(x api.Entry) bool {
	l := append(f.Gauges, x.Gauge)
	if _, e := tide.Levels(f.setting.Water, l); e != api.OK {
		return false
	}
	f.Gauges = l
	return true
}

// surveysOf returns the surveys of a ship with a load that stand, in order.
func surveysOf(d api.Standing, ship, load int) []api.Survey {
	var l []api.Survey
	for _, x := range d.Surveys {
		if x.Ship == ship && x.Load == load {
			l = append(l, x.Survey)
		}
	}
	return l
}
