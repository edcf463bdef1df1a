package port

import (
	"slices"

	"kentledge/api"
)

// Port is a port with its books.
type Port struct {
	setting api.Setting
	tick    int
	wharves map[int]wharf
}

// New returns a port at its beginning.
func New(s api.Setting) (*Port, api.Errno) {
	if e := CheckSetting(s); e != api.OK {
		return nil, e
	}
	p := &Port{setting: copyOf(s), wharves: map[int]wharf{}}
	for _, a := range s.Wharves {
		p.wharves[a] = wharf{copies{}, a}
		for _, b := range s.Wharves {
			p.wharves[a].copies[b] = &pages{}
		}
	}
	return p, api.OK
}

// named returns the wharves that a command names.
func named(c api.Command) []int {
	switch c.Kind {
	case api.CoTick, api.CoDue:
		return nil
	case api.CoTear, api.CoMeet:
		return []int{c.A, c.B}
	}
	return []int{c.A}
}

// hasAll reports whether all of some numbers are wharves of the port.
func (p *Port) hasAll(l []int) bool {
	return !slices.ContainsFunc(l, func(a int) bool { return !slices.Contains(p.setting.Wharves, a) })
}

// Do does a command.
func (p *Port) Do(c api.Command) api.Reply {
	if !isCommand(c) {
		return api.Reply{Err: api.ErrForm}
	}
	if !p.hasAll(named(c)) {
		return api.Reply{Err: api.ErrNone}
	}
	acts := map[int]func(api.Command) api.Reply{
		api.CoTick: p.doTick,
		api.CoTell: p.doTell,
		api.CoTear: p.doTear,
		api.CoMeet: p.doMeet,
	}
	if act, is := acts[c.Kind]; is {
		return act(c)
	}
	return Answer(p.setting, p.Known(c.A), c) // CoDue names no wharf, so that nothing is known
}

func (p *Port) doTick(c api.Command) api.Reply {
	if c.N < p.tick {
		return api.Reply{Err: api.ErrArg}
	}
	p.tick = c.N
	return api.Reply{}
}

func (p *Port) doTell(c api.Command) api.Reply {
	book := p.wharves[c.A].book()
	if len(book.lines) >= api.MaxLines {
		return api.Reply{Err: api.ErrLimit}
	}
	s, _ := Text(c.Entry) // no error: the command is formed
	n := len(book.lines) + 1
	book.put(n, s, p.tick)
	return api.Reply{N: n}
}

func (p *Port) doTear(c api.Command) api.Reply {
	book := p.wharves[c.A].copies[c.B]
	lines, e := Torn(book.lines, c.Page, c.Lines, c.Bytes)
	if e != api.OK {
		return api.Reply{Err: e}
	}
	book.lines = lines
	return api.Reply{}
}

func (p *Port) doMeet(c api.Command) api.Reply {
	a, b := p.wharves[c.A], p.wharves[c.B]
	told := 0
	for _, of := range p.setting.Wharves {
		told += a.copies[of].tell(b.copies[of], p.tick)
		told += b.copies[of].tell(a.copies[of], p.tick)
	}
	return api.Reply{N: told}
}

// Tick returns the time.
func (p *Port) Tick() int { return p.tick }

// Book returns the copy that a wharf has of another one's book.
func (p *Port) Book(a, b int) []string {
	if !p.hasAll([]int{a, b}) {
		return nil
	}
	return slices.Clone(p.wharves[a].copies[b].lines)
}

// Known returns the entries that a wharf knows.
func (p *Port) Known(a int) []api.Entered {
	if !p.hasAll([]int{a}) {
		return nil
	}
	var l []api.Entered
	for _, of := range p.setting.Wharves {
		book := p.wharves[a].copies[of]
		for n, x := range book.readable() {
			l = append(l, api.Entered{Wharf: of, Line: n, Tick: book.ticks[n-1], Entry: x})
		}
	}
	return l
}
