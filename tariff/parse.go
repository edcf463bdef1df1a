package tariff

import (
	"strconv"

	"kentledge/api"
)

// Parse returns the tariff of a source.
func Parse(source string) (api.Tariff, api.Errno, int) {
	if len(source) > api.MaxTariff {
		return api.Tariff{}, api.ErrLimit, 0
	}
	tokens, wrong := tokensOf(source)
	if wrong != nowhere {
		return api.Tariff{}, api.ErrForm, wrong
	}
	r := &reader{tokens: tokens}
	t := api.Tariff{Rules: r.rules()}
	if r.stuck {
		return api.Tariff{}, api.ErrForm, r.tokens[0].at
	}
	if e := Check(t); e != api.OK {
		return api.Tariff{}, e, 0
	}
	return t, api.OK, 0
}

// reader goes through tokens, the last of which is the end. At the first one that the grammar does not have there it is stuck, and stays: what is read from then on is zero.
type reader struct {
	tokens []token
	stuck  bool
}

// skip passes over a word or a mark, if it comes next.
func (r *reader) skip(text string) bool {
	if r.stuck || r.tokens[0].text != text {
		return false
	}
	r.tokens = r.tokens[1:]
	return true
}

// need passes over a word or a mark that has to come next.
func (r *reader) need(text string) {
	if !r.skip(text) {
		r.stuck = true
	}
}

// take returns the text of the next token, which has to be one that is wanted.
func (r *reader) take(isWanted func(token) bool) string {
	next := r.tokens[0]
	if r.stuck || !isWanted(next) {
		r.stuck = true
		return ""
	}
	r.tokens = r.tokens[1:]
	return next.text
}

func (r *reader) name() string {
	return r.take(func(t token) bool { return t.kind == wordToken && !isReserved(t.text) })
}

func (r *reader) number() int {
	n, _ := strconv.Atoi(r.take(func(t token) bool { return t.kind == numberToken })) // 0 where there is none
	return n
}

// list reads things with commas between them.
func list[T any](r *reader, read func() T) []T {
	l := []T{read()}
	for r.skip(",") {
		l = append(l, read())
	}
	return l
}

func (r *reader) rules() []api.Rule {
	var l []api.Rule
	for !r.stuck && r.tokens[0].kind != endToken {
		l = append(l, r.rule())
	}
	return l
}

func (r *reader) rule() api.Rule {
	rest := map[string]func(*api.Rule){"due": r.due, "rebate": r.rebate, "least": r.least, "most": r.most, "round": r.round}
	word := r.take(func(t token) bool { return rest[t.text] != nil })
	if r.stuck {
		return api.Rule{}
	}
	x := api.Rule{Due: r.name()}
	if r.skip("of") {
		x.Grades = list(r, r.name)
	}
	rest[word](&x)
	r.need(";")
	return x
}

func (r *reader) due(x *api.Rule) {
	x.Kind = api.RuDue
	r.need(":")
	x.Terms = list(r, r.term)
}

func (r *reader) term() api.Term {
	if r.skip("flat") {
		return api.Term{Pay: r.number()}
	}
	t := api.Term{Upto: api.MaxMass}
	r.need("per")
	t.Per = r.number()
	r.need("pay")
	t.Pay = r.number()
	if r.skip("above") {
		t.Above = r.number()
	}
	if r.skip("upto") {
		t.Upto = r.number()
	}
	return t
}

func (r *reader) rebate(x *api.Rule) {
	x.Kind = api.RuRebate
	x.N = r.number()
	r.need("in")
	x.D = r.number()
}

func (r *reader) least(x *api.Rule) {
	x.Kind = api.RuLeast
	x.N = r.number()
}

func (r *reader) most(x *api.Rule) {
	x.Kind = api.RuMost
	x.N = r.number()
}

func (r *reader) round(x *api.Rule) {
	x.Kind = api.RuRound
	ways := map[string]int{"up": api.WayUp, "down": api.WayDown, "near": api.WayNear}
	word := r.take(func(t token) bool { return ways[t.text] != 0 })
	x.Way = ways[word]
	x.N = r.number()
}
