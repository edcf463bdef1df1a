package port

import (
	"kentledge/api"
	"kentledge/flow"
	"kentledge/survey"
	"kentledge/tariff"
	"kentledge/tide"
)

// inquiry is a question that is formed, with what stands when it is asked.
type inquiry struct {
	api.Standing
	setting  api.Setting
	question api.Command
}

// inquire returns the inquiry of a question that is formed, or the error of what it is asked of.
func inquire(s api.Setting, l []api.Entered, q api.Command) (inquiry, api.Errno) {
	if q.Kind == api.CoDue {
		return inquiry{setting: s, question: q}, CheckSetting(s)
	}
	d, _, e := Fold(s, l, q.Known)
	return inquiry{d, s, q}, e
}

// Answer returns the reply to a question.
func Answer(s api.Setting, l []api.Entered, q api.Command) api.Reply {
	if !isQuestion(q.Kind) || !isCommand(q) {
		return api.Reply{Err: api.ErrForm}
	}
	x, e := inquire(s, l, q)
	if e != api.OK {
		return api.Reply{Err: e}
	}
	return x.reply()
}

// reply returns the reply to a question, which is nothing but the error if there is one.
func (x inquiry) reply() api.Reply {
	replies := map[int]func() api.Reply{
		api.CoMass:   x.mass,
		api.CoTaken:  x.taken,
		api.CoFree:   x.free,
		api.CoHolds:  x.holds,
		api.CoCourse: x.course,
		api.CoLacks:  x.lacks,
		api.CoDue:    x.due,
		api.CoWater:  x.water,
	}
	r := replies[x.question.Kind]()
	if r.Err != api.OK {
		return api.Reply{Err: r.Err}
	}
	return r
}

// surveys returns those of the ship that is asked for, with a load.
func (x inquiry) surveys(load int) []api.Survey {
	return surveysOf(x.Standing, x.question.Ship, load)
}

func (x inquiry) mass() api.Reply {
	ship, is := shipOf(x.setting.Ships, x.question.Ship)
	if !is {
		return api.Reply{Err: api.ErrNone}
	}
	l := x.surveys(x.question.Load)
	span, _ := survey.Together(ship, x.Bulbs, l) // its errors are those of Rests
	least, greatest, e := survey.Rests(ship, x.Bulbs, l)
	return api.Reply{Err: e, Span: span, IDs: []int{least, greatest}}
}

func (x inquiry) taken() api.Reply {
	ship, is := shipOf(x.setting.Ships, x.question.Ship)
	if !is {
		return api.Reply{Err: api.ErrNone}
	}
	span, e := survey.Taken(ship, x.Bulbs, x.surveys(x.question.Load), x.surveys(x.question.N))
	return api.Reply{Err: e, Span: span}
}

func (x inquiry) free() api.Reply {
	ship, is := shipOf(x.setting.Ships, x.question.Ship)
	if !is {
		return api.Reply{Err: api.ErrNone}
	}
	yes, e := survey.Release(ship, x.Bulbs, x.surveys(x.question.Load), x.question.Depth, x.question.Keel)
	return api.Reply{Err: e, Yes: yes}
}

// held is what the holder that is asked for holds at the end.
func (x inquiry) held() api.At { return api.At{Kind: api.AtEnd, ID: x.question.N} }

func (x inquiry) holds() api.Reply {
	low, _ := flow.Least(x.Trade, x.held()) // its errors are those of Greatest
	high, e := flow.Greatest(x.Trade, x.held())
	return api.Reply{Err: e, Low: low, High: high}
}

func (x inquiry) course() api.Reply {
	course, e := flow.Find(x.Trade)
	if e == api.ErrClash {
		cut, _, e := flow.Contradiction(x.Trade)
		return api.Reply{Err: e, Cut: cut}
	}
	return api.Reply{Err: e, Yes: true, Course: course}
}

func (x inquiry) lacks() api.Reply {
	ids, e := flow.Lacking(x.Trade)
	return api.Reply{Err: e, IDs: ids}
}

func (x inquiry) due() api.Reply {
	charges, e := tariff.Due(x.setting.Editions, x.question.N, x.question.Cargo)
	return api.Reply{Err: e, Charges: charges}
}

func (x inquiry) water() api.Reply {
	levels, e := tide.Levels(x.setting.Water, x.Gauges)
	if e != api.OK {
		return api.Reply{Err: e}
	}
	w := x.setting.Water
	w.Level = levels.Lo
	spans, e := tide.Windows(w, x.question.Minutes, x.question.N)
	return api.Reply{Err: e, Spans: spans}
}
