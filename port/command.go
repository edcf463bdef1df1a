package port

import (
	"slices"
	"strconv"
	"strings"

	"kentledge/api"
	"kentledge/tariff"
)

// The greatest numbers of a tear; package api has no names for them.
const (
	maxPage  = 9
	maxBytes = 200
)

// words returns those with which the lines of commands begin, by their kinds.
func words() []string {
	return []string{
		api.CoTick: "tick", api.CoTell: "tell", api.CoTear: "tear", api.CoMeet: "meet",
		api.CoMass: "mass", api.CoTaken: "taken", api.CoFree: "free", api.CoHolds: "holds",
		api.CoCourse: "course", api.CoLacks: "lacks", api.CoDue: "due", api.CoWater: "water",
	}
}

// commandBlanks returns the blanks of a command's line, by its kind; nothing if there is no such kind.
func commandBlanks(c *api.Command) []blank {
	wharf, other, known := id(&c.A), id(&c.B), blank{&c.Known, 0, api.MaxTick}
	ship, load := id(&c.Ship), blank{&c.Load, 1, api.MaxLoads}
	switch c.Kind {
	case api.CoTick:
		return []blank{{&c.N, 0, api.MaxTick}}
	case api.CoTell:
		return []blank{wharf}
	case api.CoTear:
		return []blank{wharf, other, {&c.Page, 0, maxPage}, {&c.Lines, 0, api.PageLines}, {&c.Bytes, 0, maxBytes}}
	case api.CoMeet:
		return []blank{wharf, other}
	case api.CoMass:
		return []blank{wharf, known, ship, load}
	case api.CoTaken:
		return []blank{wharf, known, ship, load, {&c.N, 1, api.MaxLoads}}
	case api.CoFree:
		return []blank{wharf, known, ship, load, {&c.Depth, 0, api.MaxY}, {&c.Keel, 0, api.MaxTall}}
	case api.CoHolds:
		return []blank{wharf, known, id(&c.N)}
	case api.CoCourse, api.CoLacks:
		return []blank{wharf, known}
	case api.CoDue:
		return []blank{{&c.N, 0, api.MaxDay}}
	case api.CoWater:
		lo, hi := blank{&c.Minutes.Lo, 0, api.MaxTick}, blank{&c.Minutes.Hi, 0, api.MaxTick}
		return []blank{wharf, known, lo, hi, {&c.N, -api.MaxRead, api.MaxRead}}
	}
	return nil
}

// isCommand reports whether a command is formed.
func isCommand(c api.Command) bool {
	numbers := commandBlanks(&c)
	return len(numbers) > 0 && areFilled(numbers) && isOfItsKind(c) && isBare(rest(c))
}

// isOfItsKind reports whether what a command has beside single numbers is as its kind needs it.
func isOfItsKind(c api.Command) bool {
	switch c.Kind {
	case api.CoTell:
		return isEntry(c.Entry)
	case api.CoMeet:
		return c.A != c.B
	case api.CoDue:
		return isCargo(c.Cargo)
	case api.CoWater:
		return c.Minutes.Lo <= c.Minutes.Hi
	}
	return true
}

func isCargo(l []api.Lot) bool {
	isWrong := func(x api.Lot) bool { return !isGrade(x.Grade) || !within(x.Mass, 0, api.MaxMass) }
	return len(l) <= api.MaxLots && !slices.ContainsFunc(l, isWrong)
}

// isGrade reports whether ballast can be of a grade. What names a grade is for package tariff to say, so it is asked whether a rule can be for it.
func isGrade(s string) bool {
	rule := api.Rule{Kind: api.RuLeast, Due: "any", Grades: []string{s}}
	return s == "" || tariff.Check(api.Tariff{Rules: []api.Rule{rule}}) == api.OK
}

// rest returns what a command has beside the fields of its kind.
func rest(c api.Command) api.Command {
	for _, b := range commandBlanks(&c) {
		*b.at = 0
	}
	switch c.Kind {
	case api.CoTell:
		c.Entry = api.Entry{}
	case api.CoDue:
		c.Cargo = nil
	}
	return c
}

// isBare reports whether a command has no field that is not zero, but for its kind.
func isBare(c api.Command) bool {
	numbers := []int{c.A, c.B, c.N, c.Page, c.Lines, c.Bytes, c.Known, c.Ship, c.Load, c.Depth, c.Keel, c.Minutes.Lo, c.Minutes.Hi}
	isAny := slices.ContainsFunc(numbers, func(n int) bool { return n != 0 })
	return !isAny && c.Entry == api.Entry{} && len(c.Cargo) == 0
}

// isQuestion reports whether a kind of command asks for something.
func isQuestion(kind int) bool { return within(kind, api.CoMass, api.CoWater) }

// Check returns the first error of a script.
func Check(s api.Script) (api.Errno, int) {
	if e := CheckSetting(s.Setting); e != api.OK {
		return e, -1
	}
	return checkCommands(s.Commands)
}

// checkCommands returns the first error of commands, and the index of the one that is not formed, or -1.
func checkCommands(l []api.Command) (api.Errno, int) {
	if len(l) > api.MaxCommands {
		return api.ErrLimit, -1
	}
	wrong := slices.IndexFunc(l, func(c api.Command) bool { return !isCommand(c) })
	if wrong >= 0 {
		return api.ErrForm, wrong
	}
	return api.OK, -1
}

// commandText returns the line of a command.
func commandText(c api.Command) (string, api.Errno) {
	if !isCommand(c) {
		return "", api.ErrForm
	}
	s := filled(words()[c.Kind], commandBlanks(&c))
	if c.Kind == api.CoTell {
		entry, _ := Text(c.Entry) // no error: it is formed
		s += " " + entry
	}
	for _, x := range c.Cargo {
		s += " " + gradeWord(x.Grade) + " " + strconv.Itoa(x.Mass)
	}
	return s, api.OK
}

// noGrade stands in a line for the empty grade.
const noGrade = "-"

func gradeWord(grade string) string {
	if grade == "" {
		return noGrade
	}
	return grade
}

// Print returns the text of commands.
func Print(l []api.Command) (string, api.Errno) {
	if e, _ := checkCommands(l); e != api.OK {
		return "", e
	}
	var text strings.Builder
	for _, c := range l {
		s, _ := commandText(c) // no error: it was checked
		text.WriteString(s + "\n")
	}
	return text.String(), api.OK
}

// Parse returns the commands of a text.
func Parse(text string) ([]api.Command, api.Errno, int) {
	if strings.Count(text, "\n") > api.MaxCommands {
		return nil, api.ErrLimit, -1
	}
	var l []api.Command
	for text != "" {
		s, behind, isWhole := strings.Cut(text, "\n")
		c, e := read(s, (*reader).command, commandText)
		if e != api.OK || !isWhole {
			return nil, api.ErrForm, len(l)
		}
		l = append(l, c)
		text = behind
	}
	return l, api.OK, -1
}

func (r *reader) command() api.Command {
	c := api.Command{Kind: slices.Index(words(), r.word())}
	r.fill(commandBlanks(&c))
	switch c.Kind {
	case api.CoTell:
		c.Entry = r.entry()
	case api.CoDue:
		c.Cargo = r.cargo()
	}
	return c
}

func (r *reader) cargo() []api.Lot {
	var l []api.Lot
	for r.rest != "" {
		grade := r.word()
		if grade == noGrade {
			grade = ""
		}
		l = append(l, api.Lot{Grade: grade, Mass: r.number()})
	}
	return l
}
