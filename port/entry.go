package port

import (
	"slices"
	"strings"

	"kentledge/api"
)

// letters returns those with which the lines of entries begin, by their kinds.
func letters() []string {
	return []string{api.EnGlass: "g", api.EnSurvey: "s", api.EnMove: "m", api.EnGauge: "w", api.EnBack: "x"}
}

// end is behind the last number of an entry's line, so that no beginning of a line is one.
const end = ";"

// number is a blank for any number that an entry can have.
func number(n *int) blank { return blank{n, -api.MaxRead, api.MaxID} }

// ends are blanks for both ends of a span, which need not be one.
func ends(s *api.Span) []blank { return []blank{number(&s.Lo), number(&s.Hi)} }

// entryBlanks returns the blanks of an entry's line, by its kind; nothing if there is no such kind.
func entryBlanks(x *api.Entry) []blank {
	switch x.Kind {
	case api.EnGlass:
		g := &x.Glass
		return append([]blank{id(&g.ID), number(&g.Hydro), number(&g.Dense)}, ends(&g.Shown)...)
	case api.EnSurvey:
		return surveyBlanks(x)
	case api.EnMove:
		m := &x.Move
		return append([]blank{id(&m.ID), number(&m.From), number(&m.To)}, ends(&m.Mass)...)
	case api.EnGauge:
		g := &x.Gauge
		return append([]blank{id(&g.ID), number(&g.Tick)}, ends(&g.Read)...)
	case api.EnBack:
		return []blank{{&x.Line, 1, api.MaxLines}}
	}
	return nil
}

func surveyBlanks(x *api.Entry) []blank {
	v := &x.Survey
	l := []blank{id(&x.Ship), {&x.Load, 1, api.MaxLoads}, id(&v.ID), number(&v.Tick)}
	for i := range v.Marks {
		l = append(l, ends(&v.Marks[i])...)
	}
	l = append(l, number(&v.Sag), number(&v.Hydro))
	return append(l, ends(&v.Shown)...)
}

// isEntry reports whether an entry is formed.
func isEntry(x api.Entry) bool {
	numbers := entryBlanks(&x)
	if len(numbers) == 0 || !areFilled(numbers) {
		return false
	}
	rest := x // what it has beside the numbers of its line
	for _, b := range entryBlanks(&rest) {
		*b.at = 0
	}
	return rest == api.Entry{Kind: x.Kind}
}

// Text returns the line of an entry.
func Text(x api.Entry) (string, api.Errno) {
	if !isEntry(x) {
		return "", api.ErrForm
	}
	return filled(letters()[x.Kind], entryBlanks(&x)) + end, api.OK
}

// Read returns the entry of a line.
func Read(line string) (api.Entry, api.Errno) {
	return read(line, (*reader).entry, Text)
}

func (r *reader) entry() api.Entry {
	r.rest, _ = strings.CutSuffix(r.rest, end)
	x := api.Entry{Kind: slices.Index(letters(), r.word())}
	r.fill(entryBlanks(&x))
	return x
}
