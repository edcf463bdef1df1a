package port

import (
	"strconv"

	"kentledge/api"
)

// Run returns the replies to all commands of a script.
func Run(s api.Script) ([]api.Reply, api.Errno) {
	if e, _ := Check(s); e != api.OK {
		return nil, e
	}
	p, _ := New(s.Setting) // no error: it was checked
	var l []api.Reply
	for _, c := range s.Commands {
		l = append(l, p.Do(c))
	}
	return l, api.OK
}

// Transcript returns replies as lines.
func Transcript(s api.Script, l []api.Reply) ([]string, api.Errno) {
	if e, _ := Check(s); e != api.OK {
		return nil, e
	}
	if len(l) != len(s.Commands) {
		return nil, api.ErrArg
	}
	var lines []string
	for i, r := range l {
		lines = append(lines, replyText(s.Commands[i].Kind, r))
	}
	return lines, api.OK
}

// replyText returns a reply to a command of a kind as a line.
func replyText(kind int, r api.Reply) string {
	if r.Err != api.OK {
		return line("error", int(r.Err))
	}
	switch kind {
	case api.CoTell:
		return line("line", r.N)
	case api.CoMeet:
		return line("told", r.N)
	case api.CoMass, api.CoTaken:
		return fromTo(r.Span.Lo, r.Span.Hi)
	case api.CoFree, api.CoCourse:
		return yesOrNo(r.Yes)
	case api.CoHolds:
		return fromTo(r.Low.Value, r.High.Value)
	case api.CoLacks:
		return line("lacks", r.IDs...)
	case api.CoDue:
		return dueText(r.Charges)
	case api.CoWater:
		return whenText(r.Spans)
	}
	return "ok"
}

func fromTo(lo, hi int) string { return line("from", lo) + " " + line("to", hi) }

func yesOrNo(yes bool) string {
	if yes {
		return "yes"
	}
	return "no"
}

func dueText(l []api.Charge) string {
	s := "due"
	for _, c := range l {
		s += " " + c.Due + " " + strconv.Itoa(c.Pence)
	}
	return s
}

func whenText(l []api.Span) string {
	var numbers []int
	for _, s := range l {
		numbers = append(numbers, s.Lo, s.Hi)
	}
	return line("when", numbers...)
}
