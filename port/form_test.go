package port_test

import (
	"fmt"
	"reflect"
	"regexp"
	"strconv"
	"strings"

	"kentledge/api"
)

// Forms: which numbers entries and commands have, by the tables of the chapter. A number is told by its way through the fields, "Survey.Marks.2.Lo".

// limits are those of a number.
type limits struct{ lo, hi int }

var anyNumber, anID = limits{-40000, 1 << 40}, limits{1, 1 << 40}

// form is what a kind's line has: a word, and numbers by their ways.
type form struct {
	word   string
	ways   []string
	limits map[string]limits
}

// formOf makes a form of a line, in which each number stands as its way, and behind it its limits, if they are not these.
func formOf(text string, usual limits) form {
	words := strings.Fields(text)
	f := form{word: words[0], limits: map[string]limits{}}
	for _, w := range words[1:] {
		way, bounds, _ := strings.Cut(w, "=")
		l := usual
		switch {
		case bounds == "id":
			l = anID
		case bounds != "":
			fmt.Sscanf(bounds, "%d..%d", &l.lo, &l.hi)
		}
		f.ways = append(f.ways, way)
		f.limits[way] = l
	}
	return f
}

const marks = "Survey.Marks.0.Lo Survey.Marks.0.Hi Survey.Marks.1.Lo Survey.Marks.1.Hi Survey.Marks.2.Lo Survey.Marks.2.Hi Survey.Marks.3.Lo Survey.Marks.3.Hi Survey.Marks.4.Lo Survey.Marks.4.Hi Survey.Marks.5.Lo Survey.Marks.5.Hi"

var entryForms = map[int]form{
	1: formOf("g Glass.ID=id Glass.Hydro Glass.Dense Glass.Shown.Lo Glass.Shown.Hi", anyNumber),
	2: formOf("s Ship=id Load=1..9 Survey.ID=id Survey.Tick "+marks+" Survey.Sag Survey.Hydro Survey.Shown.Lo Survey.Shown.Hi", anyNumber),
	3: formOf("m Move.ID=id Move.From Move.To Move.Mass.Lo Move.Mass.Hi", anyNumber),
	4: formOf("w Gauge.ID=id Gauge.Tick Gauge.Read.Lo Gauge.Read.Hi", anyNumber),
	5: formOf("x Line=1..60", anyNumber),
}

var commandForms = map[int]form{
	1:  formOf("tick N=0..1048576", anID),
	2:  formOf("tell A", anID),
	3:  formOf("tear A B Page=0..9 Lines=0..8 Bytes=0..200", anID),
	4:  formOf("meet A B", anID),
	5:  formOf("mass A Known=0..1048576 Ship Load=1..9", anID),
	6:  formOf("taken A Known=0..1048576 Ship Load=1..9 N=1..9", anID),
	7:  formOf("free A Known=0..1048576 Ship Load=1..9 Depth=0..65536 Keel=0..5000", anID),
	8:  formOf("holds A Known=0..1048576 N", anID),
	9:  formOf("course A Known=0..1048576", anID),
	10: formOf("lacks A Known=0..1048576", anID),
	11: formOf("due N=0..728", anID),
	12: formOf("water A Known=0..1048576 Minutes.Lo=0..1048576 Minutes.Hi=0..1048576 N=-40000..40000", anID),
}

// numberAt is where a number of a thing is kept.
func numberAt(thing any, way string) *int {
	v := reflect.ValueOf(thing).Elem()
	for _, step := range strings.Split(way, ".") {
		if i, err := strconv.Atoi(step); err == nil {
			v = v.Index(i)
		} else {
			v = v.FieldByName(step)
		}
	}
	return v.Addr().Interface().(*int)
}

// waysOf lists the ways to all numbers of a type, but for those in lists.
func waysOf(t reflect.Type, ahead string) []string {
	switch t.Kind() {
	case reflect.Int:
		return []string{strings.TrimSuffix(ahead, ".")}
	case reflect.Array:
		var l []string
		for i := range t.Len() {
			l = append(l, waysOf(t.Elem(), ahead+strconv.Itoa(i)+".")...)
		}
		return l
	case reflect.Struct:
		var l []string
		for i := range t.NumField() {
			l = append(l, waysOf(t.Field(i).Type, ahead+t.Field(i).Name+".")...)
		}
		return l
	}
	return nil
}

var entryWays = waysOf(reflect.TypeFor[api.Entry](), "")

// commandWays are those of a command, but for those of its entry.
var commandWays = only(waysOf(reflect.TypeFor[api.Command](), ""), func(way string) bool { return !strings.HasPrefix(way, "Entry.") })

// fits tells whether the numbers of a form lie within their limits, and all others are 0.
func (f form) fits(thing any, all []string) bool {
	for _, way := range all {
		n := *numberAt(thing, way)
		if l, is := f.limits[way]; is && (n < l.lo || n > l.hi) || !is && n != 0 && way != "Kind" {
			return false
		}
	}
	return true
}

// write is the line of a form, of a thing's numbers.
func (f form) write(thing any) string {
	s := f.word
	for _, way := range f.ways {
		s += fmt.Sprintf(" %d", *numberAt(thing, way))
	}
	return s
}

var numberWord = regexp.MustCompile(`^(0|-?[1-9][0-9]*)$`)

// fill gives a thing the numbers of words; it tells whether there are as many, and all are numbers.
func (f form) fill(thing any, words []string) bool {
	if len(words) != len(f.ways) {
		return false
	}
	for i, w := range words {
		n, err := strconv.Atoi(w)
		if err != nil || !numberWord.MatchString(w) {
			return false
		}
		*numberAt(thing, f.ways[i]) = n
	}
	return true
}

// formedEntry tells whether an entry is formed, by the words of the chapter.
func formedEntry(x api.Entry) bool {
	f, is := entryForms[x.Kind]
	return is && f.fits(&x, entryWays)
}

// entryLine is the line of an entry that is formed.
func entryLine(x api.Entry) string { return entryForms[x.Kind].write(&x) + ";" }

// entryOf is the entry of a line, and whether there is one.
func entryOf(line string) (api.Entry, bool) {
	if !strings.HasSuffix(line, ";") {
		return api.Entry{}, false
	}
	words := strings.Split(strings.TrimSuffix(line, ";"), " ")
	for kind, f := range entryForms {
		x := api.Entry{Kind: kind}
		if f.word == words[0] && f.fill(&x, words[1:]) && formedEntry(x) {
			return x, true
		}
	}
	return api.Entry{}, false
}

var gradeWord = regexp.MustCompile(`^[a-z][a-z0-9]{0,23}$`)

// reserved are the words of layer 7 that are no names.
const reserved = " due of flat per pay above upto rebate in least most round up down near "

func isGrade(s string) bool {
	return s == "" || gradeWord.MatchString(s) && !strings.Contains(reserved, " "+s+" ")
}

func isCargo(l []api.Lot) bool {
	for _, x := range l {
		if !isGrade(x.Grade) || x.Mass < 0 || x.Mass > 65536 {
			return false
		}
	}
	return len(l) <= 12
}

// formedCommand tells whether a command is formed, by the words of the chapter.
func formedCommand(c api.Command) bool {
	f, is := commandForms[c.Kind]
	if !is || !f.fits(&c, commandWays) {
		return false
	}
	if c.Kind == api.CoTell && !formedEntry(c.Entry) || c.Kind != api.CoTell && c.Entry != (api.Entry{}) {
		return false
	}
	if c.Kind == api.CoDue && !isCargo(c.Cargo) || c.Kind != api.CoDue && len(c.Cargo) > 0 {
		return false
	}
	return !(c.Kind == api.CoMeet && c.A == c.B) && c.Minutes.Lo <= c.Minutes.Hi
}

// commandLine is the line of a command that is formed.
func commandLine(c api.Command) string {
	s := commandForms[c.Kind].write(&c)
	if c.Kind == api.CoTell {
		s += " " + entryLine(c.Entry)
	}
	for _, x := range c.Cargo {
		grade := x.Grade
		if grade == "" {
			grade = "-"
		}
		s += fmt.Sprintf(" %s %d", grade, x.Mass)
	}
	return s
}

// commandOf is the command of a line, and whether there is one.
func commandOf(line string) (api.Command, bool) {
	words := strings.Split(line, " ")
	for kind, f := range commandForms {
		c := api.Command{Kind: kind}
		n := 1 + len(f.ways)
		if f.word != words[0] || len(words) < n || !f.fill(&c, words[1:n]) {
			continue
		}
		isRead := len(words) == n
		switch kind {
		case api.CoTell:
			c.Entry, isRead = entryOf(strings.Join(words[n:], " "))
		case api.CoDue:
			c.Cargo, isRead = cargoOf(words[n:])
		}
		if isRead && formedCommand(c) {
			return c, true
		}
	}
	return api.Command{}, false
}

func cargoOf(words []string) ([]api.Lot, bool) {
	var l []api.Lot
	for i := 0; i < len(words); i += 2 {
		if i+1 == len(words) || words[i] == "" || !numberWord.MatchString(words[i+1]) {
			return nil, false
		}
		mass, err := strconv.Atoi(words[i+1])
		if err != nil {
			return nil, false
		}
		l = append(l, api.Lot{Grade: strings.TrimPrefix(words[i], "-"), Mass: mass})
		if words[i] != "-" && strings.HasPrefix(words[i], "-") {
			return nil, false
		}
	}
	return l, true
}
