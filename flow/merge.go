package flow

import "kentledge/api"

// Merged returns a trade with two holders as one.
func Merged(t api.Trade, a, b int) (api.Trade, api.Errno) {
	if e := Check(t); e != api.OK {
		return api.Trade{}, e
	}
	i, j := holderAt(t.Holders, a), holderAt(t.Holders, b)
	if i < 0 || j < 0 {
		return api.Trade{}, api.ErrNone
	}
	if i == j {
		return api.Trade{}, api.ErrArg
	}
	one := asOne(t.Holders[i], t.Holders[j])
	if !isMass(one.Start.Hi) || !isMass(one.End.Hi) || !isMass(one.Booked) {
		return api.Trade{}, api.ErrRange
	}
	var merged api.Trade
	for _, h := range t.Holders {
		switch h.ID {
		case a:
			merged.Holders = append(merged.Holders, one)
		case b:
		default:
			merged.Holders = append(merged.Holders, h)
		}
	}
	for _, m := range t.Moves {
		m.From, m.To = renamed(m.From, b, a), renamed(m.To, b, a)
		if m.From != m.To {
			merged.Moves = append(merged.Moves, m)
		}
	}
	return merged, api.OK
}

// asOne returns a holder that stands for two, with the ID of the first.
func asOne(a, b api.Holder) api.Holder {
	return api.Holder{ID: a.ID, Start: sum(a.Start, b.Start), End: sum(a.End, b.End), Booked: a.Booked + b.Booked}
}

func sum(a, b api.Span) api.Span { return api.Span{Lo: a.Lo + b.Lo, Hi: a.Hi + b.Hi} }

func renamed(id, before, after int) int {
	if id == before {
		return after
	}
	return id
}
