package port_test

import (
	"slices"
	"strings"
	"testing"

	"kentledge/api"
	"kentledge/port"
)

// transcribed fails unless the transcript of replies is some lines.
func transcribed(t *testing.T, s api.Script, l []api.Reply, want ...string) {
	t.Helper()
	lines, e := port.Transcript(s, l)
	good(t, e)
	sameList(t, lines, want)
}

const exampleText = `tell 1 g 2 1 1000 1001 1003;
tell 2 s 1 1 7 0 240 244 240 244 250 252 250 252 258 262 258 262 0 1 1003 1003;
mass 2 0 1 1
meet 1 2
mass 2 0 1 1
tear 2 1 0 1 3
mass 2 0 1 1
`

// P10.5, P10.8, P10.9, P10.11: the chapter's example.
func TestExample(t *testing.T) {
	s := api.Script{Setting: example(), Commands: parsed(t, exampleText)}
	l := ran(t, s)
	transcribed(t, s, l, "line 1", "line 1", "from 699 to 709", "told 2", "from 700 to 705", "ok", "from 699 to 709")
	acceptIs(t, s, l, api.OK, -1)
}

// P10.8, P10.9: a day with a command of each kind.
func TestDay(t *testing.T) {
	text := `tell 5 m 7 1 2 30 50;
tell 2 m 8 2 3 35 60;
tick 10
course 5 10
holds 5 10 1
meet 5 2
course 5 9
course 5 10
holds 5 10 1
holds 5 10 7
lacks 5 10
tell 2 s 1 1 7 0 240 244 240 244 250 252 250 252 258 262 258 262 0 1 1003 1003;
tell 2 s 1 2 8 0 190 190 190 190 190 190 190 190 190 190 190 190 0 1 1000 1000;
taken 2 10 1 1 2
free 2 10 1 1 1027 0
free 2 10 1 1 1027 1
tell 2 w 2 12 100 110;
water 2 10 0 40 50
water 2 10 0 40 80
water 2 10 0 40 108
due 35 flint 30 - 20
due 9 flint 30
tear 2 5 0 1 2
tick 9
tear 2 5 1 0 0
mass 4 0 1 1
x
`
	text = strings.TrimSuffix(text, "x\n")
	setting := full()
	setting.Holders[0].Booked = 61
	s := api.Script{Setting: setting, Commands: parsed(t, text)}
	l := ran(t, s)
	transcribed(t, s, l, "line 1", "line 1", "ok", "no", "error 9", "told 2", "no", "yes", "from 50 to 60", "error 5", "lacks 1", "line 2", "line 3", "from 117 to 131", "yes", "no", "line 4",
		"when 0 40", "when 10 29 40 40", "when", "due bond 200 wharf 10", "error 5", "ok", "error 1", "error 1", "error 5")
	acceptIs(t, s, l, api.OK, -1)
}

// P10.9: replies are looked at as they are.
func TestTranscriptsOfAnyReplies(t *testing.T) {
	s := scriptOf(kindsOfCommands()...)
	r := api.Reply{N: -7, Yes: true, Span: span(5, -6), Spans: []api.Span{span(8, 7), span(-1, 0)}, IDs: []int{3, -2, 3}, Charges: []api.Charge{{Due: "a b", Pence: -4}, {}}}
	r.Low.Value, r.High.Value = 12, -13
	l := slices.Repeat([]api.Reply{r}, 12)
	transcribed(t, s, l, "ok", "line -7", "ok", "told -7", "from 5 to -6", "from 5 to -6", "yes", "from 12 to -13", "yes", "lacks 3 -2 3", "due a b -4  0", "when 8 7 -1 0")
	transcribed(t, s, make([]api.Reply, 12), "ok", "line 0", "ok", "told 0", "from 0 to 0", "from 0 to 0", "no", "from 0 to 0", "no", "lacks", "due", "when")
	for _, e := range []api.Errno{1, 9, 10, -3, minInt, maxInt} {
		r.Err = e
		want := map[api.Errno]string{1: "error 1", 9: "error 9", 10: "error 10", -3: "error -3", minInt: "error -9223372036854775808", maxInt: "error 9223372036854775807"}[e]
		transcribed(t, s, slices.Repeat([]api.Reply{r}, 12), slices.Repeat([]string{want}, 12)...)
	}
	transcribed(t, scriptOf(), nil)
}

// P10.8, P10.9, P10.11: the error of Check, then ErrArg unless there are as many replies as commands.
func TestErrorsOfScripts(t *testing.T) {
	bad := func(s api.Script, n int, want, wantOfRun api.Errno, wantAt int) {
		t.Helper()
		replies := make([]api.Reply, n)
		l, e := port.Run(s)
		equal(t, e, wantOfRun)
		equal(t, e == api.OK || len(l) == 0, true)
		lines, e := port.Transcript(s, replies)
		equal(t, e, want)
		equal(t, len(lines), 0)
		acceptIs(t, s, replies, want, wantAt)
	}
	for _, n := range []int{0, 1, 3} {
		bad(api.Script{Setting: changed(func(s *api.Setting) { s.Wharves = []int{2, 2} }), Commands: []api.Command{{}}}, n, api.ErrTwice, api.ErrTwice, -1)
		bad(scriptOf(make([]api.Command, 81)...), n, api.ErrLimit, api.ErrLimit, -1)
		bad(scriptOf(tick(3), meet(1, 1), api.Command{}), n, api.ErrForm, api.ErrForm, 1)
		bad(scriptOf(tick(3), tick(4)), n, api.ErrArg, api.OK, -1)
	}
	bad(scriptOf(), 1, api.ErrArg, api.OK, -1)
	good(t, first(port.Accept(scriptOf(), nil)))
}

// first is the first one of two results.
func first[A, B any](x A, _ B) A { return x }

// script rolls one that is without an error.
func (d *dice) script(n int) api.Script {
	how := d.season()
	s := api.Script{Setting: how.setting}
	now := 0
	for len(s.Commands) < n {
		c := d.act(how, now)
		if !formedCommand(c) {
			continue
		}
		if c.Kind == api.CoTick {
			now = max(now, c.N)
		}
		s.Commands = append(s.Commands, c)
	}
	return s
}

// P10.8, P10.16: Run is Do, command by command; Accept accepts what Run returns.
func TestScripts(t *testing.T) {
	d := &dice{}
	for range 120 {
		s := d.script(d.of(0, 1, 30, 80))
		l := ran(t, s)
		p := newPort(t, s.Setting)
		for i, c := range s.Commands {
			alike(t, l[i], p.Do(c), c)
		}
		acceptIs(t, s, l, api.OK, -1)
		lines, e := port.Transcript(s, l)
		good(t, e)
		equal(t, len(lines), len(l))
	}
}
