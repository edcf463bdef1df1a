package port_test

import (
	"slices"
	"strings"
	"testing"

	"kentledge/api"
	"kentledge/port"
)

// scriptOf is a script of the full setting.
func scriptOf(l ...api.Command) api.Script { return api.Script{Setting: full(), Commands: l} }

// grade rolls one, which sometimes is the empty one.
func (d *dice) grade() string {
	if d.one(4) {
		return ""
	}
	const letters = "abcxyz0189"
	s := string(letters[d.between(0, 5)])
	for range d.of(0, 1, d.between(0, 23), 23) {
		s += string(letters[d.between(0, 9)])
	}
	return s
}

// command rolls one that is formed, with any numbers.
func (d *dice) command() api.Command {
	for {
		c := api.Command{Kind: d.between(1, 12)}
		commandForms[c.Kind].roll(d, &c)
		switch c.Kind {
		case api.CoTell:
			c.Entry = d.entry()
		case api.CoDue:
			for range d.of(0, 1, 2, 12, d.between(0, 12)) {
				c.Cargo = append(c.Cargo, api.Lot{Grade: d.grade(), Mass: d.of(0, 65536, d.between(0, 65536))})
			}
		}
		if formedCommand(c) {
			return c
		}
	}
}

// isFormed fails unless Check and Print say of a command what the words of the chapter say; it tells what that is.
func isFormed(t *testing.T, c api.Command) bool {
	t.Helper()
	is := formedCommand(c)
	want, wantAt := api.ErrForm, 1
	if is {
		want, wantAt = api.OK, -1
	}
	e, at := port.Check(scriptOf(tick(5), c))
	equal(t, e, want, c)
	equal(t, at, wantAt, c)
	s, e := port.Print([]api.Command{c})
	equal(t, e, want, c)
	if is {
		equal(t, s, commandLine(c)+"\n", c)
	} else {
		equal(t, s, "", c)
	}
	return is
}

// P10.5: a line of each kind, and the chapter's examples.
func TestLinesOfCommands(t *testing.T) {
	lines := []string{
		"tick 5", "tell 2 " + textOf(t, seven()), "tear 2 5 1 3 4", "meet 5 2", "mass 5 1 3 2", "taken 5 1 3 2 4", "free 5 1 3 2 600 20", "holds 5 1 3", "course 5 1", "lacks 5 1",
		"due 35 flint 30 - 20", "water 5 1 3 90 40",
		"tell 1 g 2 1 1000 1001 1003;", "tell 2 s 1 1 7 0 240 244 240 244 250 252 250 252 258 262 258 262 0 1 1003 1003;", "mass 2 0 1 1", "meet 1 2", "tear 2 1 0 1 3",
		"due 0", "due 728 - 0", "due 5 a 1 a 1 of2 3", "water 1 0 0 1048576 -40000", "water 1 1048576 7 7 40000", "tick 0", "tick 1048576",
		"tear 1 1 0 0 0", "tear 1099511627776 1 9 8 200", "holds 1 0 1099511627776", "free 1 0 1 9 65536 5000", "taken 1 0 1 9 9", "tell 3 x 60;",
	}
	commands := append(kindsOfCommands(),
		tell(1, two()), tell(2, seven()), askMass(2, 0, 1, 1), meet(1, 2), tear(2, 1, 0, 1, 3),
		askDue(0), askDue(728, api.Lot{}), askDue(5, api.Lot{Grade: "a", Mass: 1}, api.Lot{Grade: "a", Mass: 1}, api.Lot{Grade: "of2", Mass: 3}),
		askWater(1, 0, span(0, 1<<20), -40000), askWater(1, 1<<20, at(7), 40000), tick(0), tick(1<<20),
		tear(1, 1, 0, 0, 0), tear(1<<40, 1, 9, 8, 200), askHolds(1, 0, 1<<40), askFree(1, 0, 1, 9, 65536, 5000), askTaken(1, 0, 1, 9, 9), tell(3, back(60)),
	)
	equal(t, len(commands), len(lines))
	for i, want := range lines {
		equal(t, printed(t, commands[i]), want+"\n")
		alike(t, parsed(t, want+"\n"), []api.Command{commands[i]})
	}
	equal(t, printed(t, commands...), strings.Join(lines, "\n")+"\n")
	alike(t, parsed(t, strings.Join(lines, "\n")+"\n"), commands)
}

// P10.5: each number of a command has its limits, and fields that its kind does not have are zero.
func TestFormedCommands(t *testing.T) {
	met := map[bool]int{}
	numbers := []int{minInt, -40001, -40000, -1, 0, 1, 2, 3, 4, 5, 8, 9, 10, 90, 91, 200, 201, 728, 729, 5000, 5001, 40000, 40001, 1 << 16, 1<<16 + 1, 1 << 20, 1<<20 + 1, 1 << 40, 1<<40 + 1, maxInt}
	for _, c := range append(kindsOfCommands(), api.Command{}) {
		for _, way := range commandWays {
			for _, n := range numbers {
				other := c
				*numberAt(&other, way) = n
				met[isFormed(t, other)]++
			}
		}
		for _, way := range entryWays {
			for _, n := range []int{0, 1, 5} {
				other := c
				*numberAt(&other.Entry, way) = n
				met[isFormed(t, other)]++
			}
		}
		for _, cargo := range [][]api.Lot{nil, {}, {{}}, {{Grade: "a", Mass: 1}}} {
			other := c
			other.Cargo = cargo
			met[isFormed(t, other)]++
		}
	}
	enough(t, met, 500, true, false)
	for _, c := range []api.Command{meet(3, 3), askWater(1, 0, span(8, 7), 0), tell(1, api.Entry{}), tell(1, api.Entry{Kind: 6}), {Kind: 13}, {Kind: -1}, {Kind: minInt}, {Kind: maxInt}} {
		equal(t, isFormed(t, c), false)
	}
}

// P10.5: a cargo has at most 12 lots, each with a grade of layer 7 and a mass.
func TestCargoes(t *testing.T) {
	lots := make([]api.Lot, 12)
	equal(t, isFormed(t, askDue(5, lots...)), true)
	equal(t, isFormed(t, askDue(5, append(lots, api.Lot{})...)), false)
	for _, mass := range []int{minInt, -1, 0, 65536, 65537, maxInt} {
		equal(t, isFormed(t, askDue(5, api.Lot{Mass: mass})), 0 <= mass && mass <= 65536)
		equal(t, isFormed(t, askDue(5, api.Lot{}, api.Lot{Grade: "a", Mass: mass})), 0 <= mass && mass <= 65536)
	}
	long := strings.Repeat("a", 25)
	for _, grade := range []string{"a", "z9", "a0b1", long[:24], "dues", "of2", "inn", "any"} {
		equal(t, isFormed(t, askDue(5, api.Lot{Grade: grade, Mass: 7})), true, grade)
		alike(t, parsed(t, "due 5 "+grade+" 7\n"), []api.Command{askDue(5, api.Lot{Grade: grade, Mass: 7})})
	}
	for _, grade := range append(strings.Fields(reserved), "-", "A", "aB", "9", "9a", "a b", " ", "a ", " a", "a-", "-a", "a_b", "a\n", "\xc3\xa4", "a\x00", "a;", "a,b", "#", long) {
		equal(t, isFormed(t, askDue(5, api.Lot{Grade: grade, Mass: 7})), false, grade)
		equal(t, isFormed(t, askDue(5, api.Lot{}, api.Lot{Grade: grade, Mass: 7})), false, grade)
		if grade != "-" {
			_, e, at := port.Parse("due 5 - 1\ndue 5 " + grade + " 7\n")
			equal(t, e, api.ErrForm, grade)
			equal(t, at, 1, grade)
		}
	}
}

// P10.5: texts that are none, with the index of the first line that is none.
func TestNoTexts(t *testing.T) {
	for text, want := range map[string]int{
		"\n": 0, "tick 5": 0, "tick 5\nmeet 1 1\n": 1, "tick 05\n": 0, "due 3 of 4\n": 0, "tick 5\n\n": 1, "tick 5\n\ntick 6\n": 1, "tick 5\ntick 6": 1, "tick 5\r\n": 0, "tick 5 \n": 0, " tick 5\n": 0, "tick  5\n": 0,
		"tick\n": 0, "tick \n": 0, "tick 5 6\n": 0, "tick -1\n": 0, "tick 1048577\n": 0, "Tick 5\n": 0, "tock 5\n": 0, "tick +5\n": 0, "tick -0\n": 0, "tick\t5\n": 0, "tick 5;\n": 0, "x 3;\n": 0, "5\n": 0, " \n": 0, ";\n": 0,
		"tell 1\n": 0, "tell 1 \n": 0, "tell 1 x 3\n": 0, "tell 1 x 3; \n": 0, "tell 1 x 61;\n": 0, "tell x 3;\n": 0, "tell 0 x 3;\n": 0, "tell 1 x 3; 5\n": 0, "tell 1  x 3;\n": 0, "tell 1 ;\n": 0, "tell 1 tick 5;\n": 0, "tell 1 x 3;;\n": 0,
		"due 5 -\n": 0, "due 5 - \n": 0, "due 5 a\n": 0, "due 5 a -1\n": 0, "due 5 a 01\n": 0, "due 5  1\n": 0, "due 5 a 1 \n": 0, "due 5 -- 1\n": 0, "due 5 -a 1\n": 0, "due 5 a 1 b\n": 0, "due 5 1 a\n": 0, "due 5 - 65537\n": 0, "due 729\n": 0, "due - 5\n": 0,
		"due 5" + strings.Repeat(" - 1", 13) + "\n": 0, "water 1 0 8 7 0\n": 0, "meet 1 2 3\n": 0, "meet 1\n": 0, "mass 1 0 1\n": 0, "mass 1 0 1 10\n": 0, "tear 1 1 10 0 0\n": 0, "tear 1 1 0 9 0\n": 0, "tear 1 1 0 0 201\n": 0,
		"tick 1\ntick 2\ntick x\ntick y\n": 2, "tick 1\ntick 99999999999999999999\n": 1, "\x00": 0, "tick 5\n\x00\n": 1, strings.Repeat("tick 5\n", 80) + "tick 5": 80, strings.Repeat("tick 5\n", 80) + "x": 80, strings.Repeat("tick 5\n", 79) + "x\n": 79,
	} {
		l, e, at := port.Parse(text)
		equal(t, e, api.ErrForm, text)
		equal(t, at, want, text)
		equal(t, len(l), 0, text)
	}
	alike(t, parsed(t, ""), []api.Command(nil))
	equal(t, printed(t), "")
}

// P10.5: at most 80 commands, or line feeds, which is looked at first.
func TestManyCommands(t *testing.T) {
	many := slices.Repeat([]api.Command{tick(5)}, 81)
	text := strings.Repeat("tick 5\n", 81)
	alike(t, parsed(t, text[:80*7]), many[:80])
	equal(t, printed(t, many[:80]...), text[:80*7])
	e, at := port.Check(scriptOf(many[:80]...))
	equal(t, e, api.OK)
	equal(t, at, -1)
	many[0], many[3] = meet(1, 1), api.Command{}
	for _, bad := range []string{text, strings.Repeat("\n", 81), text[1:], "x\n" + text, strings.Repeat("x\n", 1000)} {
		l, e, at := port.Parse(bad)
		equal(t, e, api.ErrLimit)
		equal(t, at, -1)
		equal(t, len(l), 0)
	}
	s, e := port.Print(many)
	equal(t, e, api.ErrLimit)
	equal(t, s, "")
	e, at = port.Check(scriptOf(many...))
	equal(t, e, api.ErrLimit)
	equal(t, at, -1)
	s, e = port.Print(many[:80])
	equal(t, e, api.ErrForm)
	equal(t, s, "")
	e, at = port.Check(scriptOf(many[:80]...))
	equal(t, e, api.ErrForm)
	equal(t, at, 0)
	e, at = port.Check(scriptOf(many[1:80]...))
	equal(t, e, api.ErrForm)
	equal(t, at, 2)
}

// P10.5: Check looks at the setting first.
func TestCheckOfSettings(t *testing.T) {
	s := scriptOf(slices.Repeat([]api.Command{{}}, 81)...)
	s.Setting.Wharves = []int{1, 1}
	e, at := port.Check(s)
	equal(t, e, api.ErrTwice)
	equal(t, at, -1)
	e, at = port.Check(api.Script{})
	equal(t, e, api.OK)
	equal(t, at, -1)
}

// parseIs fails unless Parse says of a line what the words of the chapter say.
func parseIs(t *testing.T, line string) bool {
	t.Helper()
	want, is := commandOf(line)
	l, e, at := port.Parse("tick 5\n" + line + "\n")
	if is {
		good(t, e, line)
		alike(t, l, []api.Command{tick(5), want})
	} else {
		equal(t, e, api.ErrForm, line)
		equal(t, at, 1, line)
		equal(t, len(l), 0, line)
	}
	return is
}

// P10.5, P10.12: Parse of Print are the commands, and Print of what Parse takes is the text; lines that are spoiled are judged by the words of the chapter.
func TestTextsAndBack(t *testing.T) {
	d := &dice{}
	met := map[string]int{}
	for range 600 {
		var l []api.Command
		want := ""
		for range d.of(0, 1, 5, 80, d.between(0, 20)) {
			c := d.command()
			l = append(l, c)
			want += commandLine(c) + "\n"
			s := d.spoiled(commandLine(c))
			if strings.Contains(s, "\n") {
				continue
			}
			if parseIs(t, s) {
				equal(t, printed(t, parsed(t, s+"\n")...), s+"\n")
				met["is"]++
			} else {
				met["is none"]++
			}
		}
		equal(t, printed(t, l...), want)
		alike(t, parsed(t, want), l)
	}
	enough(t, met, 1000, "is", "is none")
}
