package port

import (
	"slices"

	"kentledge/api"
	"kentledge/flow"
)

// bounds are the least and the greatest number that something can be, as limits with their proofs.
type bounds struct{ low, high api.Limit }

// proved returns what of a reply comes with a proof, so that it is not found once more; nothing if there is no such thing.
func (x inquiry) proved(r api.Reply) any {
	kind := x.question.Kind
	switch {
	case r.Err != api.OK:
		return nil
	case kind == api.CoHolds:
		return bounds{r.Low, r.High}
	case kind == api.CoCourse && r.Yes:
		return r.Course
	case kind == api.CoCourse:
		return r.Cut
	}
	return nil
}

// isRight reports whether a reply is right.
func (x inquiry) isRight(r api.Reply) bool {
	switch p := x.proved(r).(type) {
	case bounds:
		isLeast := flow.CheckLimit(x.Trade, x.held(), p.low, false) == api.OK
		isGreatest := flow.CheckLimit(x.Trade, x.held(), p.high, true) == api.OK
		return isLeast && isGreatest && same(r, api.Reply{Low: p.low, High: p.high})
	case api.Course:
		return flow.CheckCourse(x.Trade, p) == api.OK && same(r, api.Reply{Yes: true, Course: p})
	case api.Cut:
		return flow.CheckCut(x.Trade, p) == api.OK && same(r, api.Reply{Cut: p})
	}
	return same(r, x.reply())
}

// CheckAnswer returns OK if a reply to a question is right, without searching where there are proofs.
func CheckAnswer(s api.Setting, l []api.Entered, q api.Command, r api.Reply) api.Errno {
	if !isQuestion(q.Kind) || !isCommand(q) {
		return api.ErrForm
	}
	x, e := inquire(s, l, q)
	isRight := e == api.OK && x.isRight(r) || e != api.OK && same(r, api.Reply{Err: e})
	if !isRight {
		return api.ErrProof
	}
	return api.OK
}

// same reports whether two replies are equal; an empty list is so whether it is nil or not.
func same(a, b api.Reply) bool {
	return a.Err == b.Err && a.N == b.N && a.Yes == b.Yes && a.Span == b.Span &&
		slices.Equal(a.Spans, b.Spans) && slices.Equal(a.IDs, b.IDs) && slices.Equal(a.Charges, b.Charges) &&
		sameLimit(a.Low, b.Low) && sameLimit(a.High, b.High) &&
		sameCourse(a.Course, b.Course) && sameCut(a.Cut, b.Cut)
}

func sameLimit(a, b api.Limit) bool {
	return a.Value == b.Value && sameCourse(a.Course, b.Course) && sameCut(a.Cut, b.Cut)
}

func sameCourse(a, b api.Course) bool {
	return slices.Equal(a.Start, b.Start) && slices.Equal(a.End, b.End) && slices.Equal(a.Mass, b.Mass)
}

func sameCut(a, b api.Cut) bool { return a.Way == b.Way && slices.Equal(a.Holders, b.Holders) }

// Accept returns OK if all replies to a script are right.
func Accept(s api.Script, l []api.Reply) (api.Errno, int) {
	if e, at := Check(s); e != api.OK {
		return e, at
	}
	if len(l) != len(s.Commands) {
		return api.ErrArg, -1
	}
	p, _ := New(s.Setting) // no error: it was checked
	for i, c := range s.Commands {
		if !p.accepts(c, l[i]) {
			return api.ErrProof, i
		}
	}
	return api.OK, -1
}

// accepts reports whether a reply to a command is right; commands that are no questions are done.
func (p *Port) accepts(c api.Command, r api.Reply) bool {
	if isQuestion(c.Kind) && p.hasAll(named(c)) {
		return CheckAnswer(p.setting, p.Known(c.A), c, r) == api.OK
	}
	return same(p.Do(c), r)
}
