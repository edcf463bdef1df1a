package port_test

import (
	"slices"
	"testing"

	"kentledge/api"
	"kentledge/port"
)

// place is a line of a copy: that of the wharf by, of the book of another one.
type place struct{ by, of, line int }

// slip is what stands at a place, and the minute from which it is known.
type slip struct {
	text  string
	since int
}

// clerks keep the books of a port by the words of the chapter, each line for itself.
type clerks struct {
	setting api.Setting
	now     int
	slips   map[place]slip
	lines   map[[2]int]int // how many lines each copy has
}

func newClerks(s api.Setting) *clerks {
	return &clerks{setting: s, slips: map[place]slip{}, lines: map[[2]int]int{}}
}

func (k *clerks) isWharf(a int) bool { return slices.Contains(k.setting.Wharves, a) }

func (k *clerks) reads(p place) (api.Entry, bool) { return entryOf(k.slips[p].text) }

func (k *clerks) write(p place, text string) {
	k.slips[p] = slip{text, k.now}
	k.lines[[2]int{p.by, p.of}] = max(k.lines[[2]int{p.by, p.of}], p.line)
}

func (k *clerks) book(a, b int) []string {
	var l []string
	for n := range k.lines[[2]int{a, b}] {
		l = append(l, k.slips[place{a, b, n + 1}].text)
	}
	return l
}

func (k *clerks) known(a int) []api.Entered {
	var l []api.Entered
	if !k.isWharf(a) {
		return nil
	}
	for _, b := range k.setting.Wharves {
		for n := 1; n <= 60; n++ {
			p := place{a, b, n}
			if x, is := k.reads(p); is {
				l = append(l, entered(b, n, k.slips[p].since, x))
			}
		}
	}
	return l
}

func (k *clerks) do(c api.Command) api.Reply {
	if !formedCommand(c) {
		return failed(api.ErrForm)
	}
	if c.Kind != api.CoTick && c.Kind != api.CoDue && !k.isWharf(c.A) || (c.Kind == api.CoTear || c.Kind == api.CoMeet) && !k.isWharf(c.B) {
		return failed(api.ErrNone)
	}
	switch c.Kind {
	case api.CoTick:
		if c.N < k.now {
			return failed(api.ErrArg)
		}
		k.now = c.N
		return api.Reply{}
	case api.CoTell:
		n := k.lines[[2]int{c.A, c.A}] + 1
		if n > 60 {
			return failed(api.ErrLimit)
		}
		k.write(place{c.A, c.A, n}, entryLine(c.Entry))
		return api.Reply{N: n}
	case api.CoTear:
		return k.tear(c)
	case api.CoMeet:
		return k.meet(c)
	}
	return answerByWords(k.setting, k.known(c.A), c)
}

func (k *clerks) tear(c api.Command) api.Reply {
	of := min(8, k.lines[[2]int{c.A, c.B}]-8*c.Page)
	if of <= 0 || c.Lines > of {
		return failed(api.ErrArg)
	}
	for i := 1; i <= of; i++ {
		p := place{c.A, c.B, 8*c.Page + i}
		x := k.slips[p]
		if i == c.Lines {
			x.text = x.text[:min(len(x.text), c.Bytes)]
		}
		if i > c.Lines {
			x.text = ""
		}
		k.slips[p] = x
	}
	return api.Reply{}
}

func (k *clerks) meet(c api.Command) api.Reply {
	told := 0
	for _, of := range k.setting.Wharves {
		for n := 1; n <= 60; n++ {
			a, b := place{c.A, of, n}, place{c.B, of, n}
			_, first := k.reads(a)
			_, second := k.reads(b)
			if first && !second {
				k.write(b, k.slips[a].text)
				told++
			}
			if second && !first {
				k.write(a, k.slips[b].text)
				told++
			}
		}
	}
	return api.Reply{N: told}
}

// samePort fails unless a port tells what the clerks tell.
func samePort(t *testing.T, p *port.Port, k *clerks) {
	t.Helper()
	equal(t, p.Tick(), k.now)
	for _, a := range append([]int{0, 1}, k.setting.Wharves...) {
		sameList(t, p.Known(a), k.known(a), a)
		for _, b := range append([]int{0, 1}, k.setting.Wharves...) {
			sameList(t, p.Book(a, b), k.book(a, b), a, b)
		}
	}
}

// season is what commands are rolled for.
type season struct {
	setting api.Setting
	fields  []int // wharves, and sometimes a number that is none
}

func (d *dice) season() season {
	s := d.flows()
	s.Wharves = [][]int{{5}, {5, 2}, {5, 2, 9}, {7, 5, 2, 9}}[d.of(0, 1, 1, 2, 2, 2, 3, 3)]
	fields := slices.Repeat(s.Wharves, 8)
	return season{s, append(fields, 4)}
}

// act rolls a command; a few are not formed, or not possible.
func (d *dice) act(how season, now int) api.Command {
	a, b := d.of(how.fields...), d.of(how.fields...)
	switch d.between(1, 20) {
	case 1, 2:
		return tick(max(0, now+d.between(-1, 4)))
	case 3, 4, 5, 6, 7, 8, 9:
		return tell(a, d.told())
	case 10, 11, 12:
		return tear(a, b, d.of(0, 0, 0, 1, 1, 2, 7), d.between(0, 8), d.of(0, 5, 15, 200, d.between(0, 90)))
	case 13, 14, 15, 16:
		return meet(a, b)
	case 17:
		return d.wrongAct(how)
	}
	q := d.question(how.setting, max(0, now-d.of(0, 0, 0, 1, 3)))
	if q.A != 0 {
		q.A = a
	}
	return q
}

// wrongAct rolls a command that is not formed.
func (d *dice) wrongAct(how season) api.Command {
	for {
		c := d.command()
		c.A, c.B = d.of(how.fields...), d.of(how.fields...)
		*numberAt(&c, commandWays[d.between(0, len(commandWays)-1)]) = d.of(-1, 0, 1, 2, 1<<20+1, 1<<40+1)
		if !formedCommand(c) {
			return c
		}
	}
}

// P10.6, P10.7: ports beside clerks who follow the words of the chapter, command by command.
func TestPorts(t *testing.T) {
	d := &dice{}
	met := map[string]int{}
	for range 100 {
		how := d.season()
		p, k := newPort(t, how.setting), newClerks(how.setting)
		for i := range d.of(30, 80, 150) {
			c := d.act(how, k.now)
			want := k.do(c)
			alike(t, p.Do(c), want, c)
			if f, is := commandForms[c.Kind]; is && (want.Err != api.ErrForm) {
				met[name(c, want)]++
				met[f.word]++
			}
			if i%10 == 0 {
				samePort(t, p, k)
			}
		}
		samePort(t, p, k)
	}
	enough(t, met, 20, "tick", "tick arg", "tell", "tell none", "tear", "tear arg", "tear none", "meet", "meet none", "mass", "mass none", "taken", "free", "holds", "course yes", "course", "lacks", "due", "due none", "water")
	enough(t, met, 3, "free yes")
}
