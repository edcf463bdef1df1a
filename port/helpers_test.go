package port_test

import (
	"fmt"
	"slices"
	"testing"

	"kentledge/api"
	"kentledge/port"
)

const (
	minInt = -1 << 63
	maxInt = 1<<63 - 1
)

func span(lo, hi int) api.Span { return api.Span{Lo: lo, Hi: hi} }

// at is the span of one number.
func at(n int) api.Span { return span(n, n) }

// curveOf makes a curve of an error and of pairs of X and Y.
func curveOf(err int, xy ...int) api.Curve {
	c := api.Curve{Err: err}
	for i := 0; i < len(xy); i += 2 {
		c.Knots = append(c.Knots, api.Knot{X: xy[i], Y: xy[i+1]})
	}
	return c
}

// brig is the ship of the chapter's examples, with an ID.
func brig(id int) api.Ship {
	return api.Ship{
		ID: id, Light: 400, Height: 100,
		Holds: []api.Hold{{ID: 1, Room: 400, Lever: 50, Height: 60}, {ID: 2, Room: 400, Lever: -50, Height: 150}},
		Mean:  curveOf(0, 10, 100, 30, 500), Meta: curveOf(0, 10, 160, 30, 140),
		Turn: 10, Least: 30,
	}
}

func holder(id int, start, end api.Span, booked int) api.Holder {
	return api.Holder{ID: id, Start: start, End: end, Booked: booked}
}

// edition is a tariff of a due by mass, and of another one, that is in force from a day on.
func edition(id, from, pay int) api.Edition {
	rules := []api.Rule{
		{Kind: api.RuDue, Due: "wharf", Terms: []api.Term{{Per: 20, Pay: pay, Upto: api.MaxMass}}},
		{Kind: api.RuDue, Due: "bond", Terms: []api.Term{{Pay: 100}}},
		{Kind: api.RuRebate, Due: "wharf", Grades: []string{"flint"}, N: 1, D: 2},
	}
	return api.Edition{ID: id, From: from, Tariff: api.Tariff{Rules: rules}}
}

// example is the setting of the chapter's examples.
func example() api.Setting {
	return api.Setting{Wharves: []int{1, 2}, Ships: []api.Ship{brig(1)}, Hydros: []api.Hydro{{ID: 1, Off: span(-5, 5)}}}
}

// full is a setting with something of each sort, whose wharves do not stand by their numbers.
func full() api.Setting {
	return api.Setting{
		Wharves:  []int{5, 2, 9},
		Ships:    []api.Ship{brig(3), brig(1)},
		Hydros:   []api.Hydro{{ID: 1, Off: span(-5, 5)}, {ID: 2, Off: span(0, 3)}},
		Holders:  []api.Holder{holder(1, at(100), span(40, 60), 60), holder(2, at(0), span(0, 5), 4), holder(3, span(10, 20), span(50, 70), 50)},
		Water:    api.Water{Level: 7, Cycles: []api.Cycle{{ID: 1, Every: 10, Heights: []int{0, 50, 30}}, {ID: 2, Begin: 5, Every: 7, Heights: []int{3, -4}}}, Shifts: []api.Shift{{From: 1, To: 2, Add: 9}}},
		Editions: []api.Edition{edition(1, 10, 3), edition(2, 30, 5)},
	}
}

// changed is the full setting with something else.
func changed(f func(s *api.Setting)) api.Setting {
	s := full()
	f(&s)
	return s
}

func glass(id, hydro, dense int, shown api.Span) api.Entry {
	return api.Entry{Kind: api.EnGlass, Glass: api.Glass{ID: id, Hydro: hydro, Dense: dense, Shown: shown}}
}

func surveyed(ship, load int, x api.Survey) api.Entry {
	return api.Entry{Kind: api.EnSurvey, Ship: ship, Load: load, Survey: x}
}

func move(id, from, to int, mass api.Span) api.Entry {
	return api.Entry{Kind: api.EnMove, Move: api.Move{ID: id, From: from, To: to, Mass: mass}}
}

func gauge(id, tick int, read api.Span) api.Entry {
	return api.Entry{Kind: api.EnGauge, Gauge: api.Gauge{ID: id, Tick: tick, Read: read}}
}

func back(line int) api.Entry { return api.Entry{Kind: api.EnBack, Line: line} }

// two is the glass of layer 4's examples.
func two() api.Entry { return glass(2, 1, 1000, span(1001, 1003)) }

// seven is the survey of layer 4's examples, of the ship 1 with the load 1.
func seven() api.Entry { return sevenAs(1, 1, 7) }

// sevenAs is the same survey of another ship or load, with another ID.
func sevenAs(ship, load, id int) api.Entry {
	a, b, c := span(240, 244), span(250, 252), span(258, 262)
	return surveyed(ship, load, api.Survey{ID: id, Marks: [6]api.Span{a, a, b, b, c, c}, Hydro: 1, Shown: at(1003)})
}

// level is a survey of a ship that lies level, with the same span at each mark.
func level(ship, load, id int, p, shown api.Span) api.Entry {
	return surveyed(ship, load, api.Survey{ID: id, Marks: [6]api.Span{p, p, p, p, p, p}, Hydro: 1, Shown: shown})
}

func entered(wharf, line, tick int, x api.Entry) api.Entered {
	return api.Entered{Wharf: wharf, Line: line, Tick: tick, Entry: x}
}

// book is entries in the lines of one wharf's book from 1 on, all known from 0 on.
func book(wharf int, l ...api.Entry) []api.Entered {
	var some []api.Entered
	for i, x := range l {
		some = append(some, entered(wharf, i+1, 0, x))
	}
	return some
}

func tick(n int) api.Command { return api.Command{Kind: api.CoTick, N: n} }

func tell(a int, x api.Entry) api.Command { return api.Command{Kind: api.CoTell, A: a, Entry: x} }

func tear(a, b, page, lines, bytes int) api.Command {
	return api.Command{Kind: api.CoTear, A: a, B: b, Page: page, Lines: lines, Bytes: bytes}
}

func meet(a, b int) api.Command { return api.Command{Kind: api.CoMeet, A: a, B: b} }

func askMass(a, known, ship, load int) api.Command {
	return api.Command{Kind: api.CoMass, A: a, Known: known, Ship: ship, Load: load}
}

func askTaken(a, known, ship, load, n int) api.Command {
	return api.Command{Kind: api.CoTaken, A: a, Known: known, Ship: ship, Load: load, N: n}
}

func askFree(a, known, ship, load, depth, keel int) api.Command {
	return api.Command{Kind: api.CoFree, A: a, Known: known, Ship: ship, Load: load, Depth: depth, Keel: keel}
}

func askHolds(a, known, n int) api.Command {
	return api.Command{Kind: api.CoHolds, A: a, Known: known, N: n}
}

func askCourse(a, known int) api.Command { return api.Command{Kind: api.CoCourse, A: a, Known: known} }

func askLacks(a, known int) api.Command { return api.Command{Kind: api.CoLacks, A: a, Known: known} }

func askDue(n int, cargo ...api.Lot) api.Command {
	return api.Command{Kind: api.CoDue, N: n, Cargo: cargo}
}

func askWater(a, known int, minutes api.Span, n int) api.Command {
	return api.Command{Kind: api.CoWater, A: a, Known: known, Minutes: minutes, N: n}
}

// kindsOfEntries has an entry of each kind, none of whose numbers is 0.
func kindsOfEntries() []api.Entry {
	x := api.Survey{ID: 7, Tick: 11, Sag: 4, Hydro: 1, Shown: span(1003, 1004)}
	for i := range x.Marks {
		x.Marks[i] = span(240+i, 250+i)
	}
	return []api.Entry{glass(2, 1, 1000, span(1001, 1003)), surveyed(1, 3, x), move(4, 1, 2, span(3, 5)), gauge(6, 8, span(-20, 30)), back(3)}
}

// kindsOfCommands has a command of each kind, none of whose numbers is 0.
func kindsOfCommands() []api.Command {
	return []api.Command{
		tick(5), tell(2, seven()), tear(2, 5, 1, 3, 4), meet(5, 2), askMass(5, 1, 3, 2), askTaken(5, 1, 3, 2, 4),
		askFree(5, 1, 3, 2, 600, 20), askHolds(5, 1, 3), askCourse(5, 1), askLacks(5, 1), askDue(35, api.Lot{Grade: "flint", Mass: 30}, api.Lot{Mass: 20}),
		askWater(5, 1, span(3, 90), 40),
	}
}

// dice rolls numbers, the same ones in each run.
type dice struct{ state uint64 }

func (d *dice) between(lo, hi int) int {
	d.state = d.state*6364136223846793005 + 1442695040888963407
	return lo + int((d.state>>33)%uint64(hi-lo+1))
}

// one tells whether a die of so many sides shows its first one.
func (d *dice) one(sides int) bool { return d.between(1, sides) == 1 }

// of rolls one of some numbers.
func (d *dice) of(l ...int) int { return l[d.between(0, len(l)-1)] }

// span rolls one that is not longer than some number; it is none if this is less than 0.
func (d *dice) span(lo, hi, long int) api.Span {
	from := d.between(lo, hi)
	return span(from, from+d.between(min(0, long), long))
}

// shuffled is a list in another order.
func shuffled[T any](d *dice, l []T) []T {
	l = slices.Clone(l)
	for i := range l {
		j := d.between(i, len(l)-1)
		l[i], l[j] = l[j], l[i]
	}
	return l
}

// only is those things that are meant.
func only[T any](l []T, isMeant func(T) bool) []T {
	var some []T
	for _, x := range l {
		if isMeant(x) {
			some = append(some, x)
		}
	}
	return some
}

// plain is a thing as text, in which an empty list is the same whether it is nil or not.
func plain(x any) string { return fmt.Sprintf("%+v", x) }

// alike fails unless two things are the same but for empty lists.
func alike(t *testing.T, got, want any, about ...any) {
	t.Helper()
	if plain(got) != plain(want) {
		t.Fatalf("got %+v want %+v about %+v", got, want, about)
	}
}

// good fails unless a call had no error.
func good(t *testing.T, e api.Errno, about ...any) {
	t.Helper()
	if e != api.OK {
		t.Fatal("error", e, about)
	}
}

func equal[T comparable](t *testing.T, got, want T, about ...any) {
	t.Helper()
	if got != want {
		t.Fatal("got", got, "want", want, about)
	}
}

func sameList[T comparable](t *testing.T, got, want []T, about ...any) {
	t.Helper()
	if !slices.Equal(got, want) {
		t.Fatal("got", got, "want", want, about)
	}
}

// enough fails unless each of some things was met so often: what is rolled would say too little otherwise.
func enough[T comparable](t *testing.T, met map[T]int, times int, things ...T) {
	t.Helper()
	for _, x := range things {
		if met[x] < times {
			t.Fatal("met", met[x], "times:", x)
		}
	}
}

func newPort(t *testing.T, s api.Setting) *port.Port {
	t.Helper()
	p, e := port.New(s)
	good(t, e)
	return p
}

// does fails unless a command is done without an error.
func does(t *testing.T, p *port.Port, l ...api.Command) {
	t.Helper()
	for _, c := range l {
		good(t, p.Do(c).Err, c)
	}
}

func foldOf(t *testing.T, s api.Setting, l []api.Entered, known int) (api.Standing, []api.Entered) {
	t.Helper()
	d, refused, e := port.Fold(s, l, known)
	good(t, e, l)
	return d, refused
}

func textOf(t *testing.T, x api.Entry) string {
	t.Helper()
	s, e := port.Text(x)
	good(t, e, x)
	return s
}

func printed(t *testing.T, l ...api.Command) string {
	t.Helper()
	s, e := port.Print(l)
	good(t, e, l)
	return s
}

func parsed(t *testing.T, text string) []api.Command {
	t.Helper()
	l, e, at := port.Parse(text)
	good(t, e, text)
	equal(t, at, -1, text)
	return l
}

func ran(t *testing.T, s api.Script) []api.Reply {
	t.Helper()
	l, e := port.Run(s)
	good(t, e)
	equal(t, len(l), len(s.Commands))
	return l
}

// acceptIs fails unless Accept returns an error and an index.
func acceptIs(t *testing.T, s api.Script, l []api.Reply, want api.Errno, at int, about ...any) {
	t.Helper()
	e, i := port.Accept(s, l)
	equal(t, e, want, about)
	equal(t, i, at, about)
}
