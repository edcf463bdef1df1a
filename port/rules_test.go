package port_test

import (
	"fmt"
	"reflect"
	"slices"
	"strings"
	"testing"

	"kentledge/api"
	"kentledge/port"
)

// roomyValue is a copy of a thing, in which each list has something behind its end.
func roomyValue(v reflect.Value) reflect.Value {
	c := reflect.New(v.Type()).Elem()
	switch v.Kind() {
	case reflect.Struct:
		for i := range v.NumField() {
			c.Field(i).Set(roomyValue(v.Field(i)))
		}
	case reflect.Slice:
		n := v.Len()
		c.Set(reflect.MakeSlice(v.Type(), n, n+2))
		for i := range n {
			c.Index(i).Set(roomyValue(v.Index(i)))
		}
		for i := range 2 {
			mark(c.Slice(0, n+2).Index(n + i))
		}
	default:
		c.Set(v)
	}
	return c
}

// mark writes something into each number and text of a thing.
func mark(v reflect.Value) {
	switch v.Kind() {
	case reflect.Struct:
		for i := range v.NumField() {
			mark(v.Field(i))
		}
	case reflect.Array:
		for i := range v.Len() {
			mark(v.Index(i))
		}
	case reflect.Int:
		v.SetInt(-7)
	case reflect.String:
		v.SetString("-7")
	}
}

// dump is a thing as text, with what lies behind the ends of its lists.
func dump(v reflect.Value) string {
	switch v.Kind() {
	case reflect.Struct:
		s := "{"
		for i := range v.NumField() {
			s += dump(v.Field(i)) + " "
		}
		return s + "}"
	case reflect.Slice:
		s := fmt.Sprint("[", v.Len(), ": ")
		for i := range v.Cap() {
			s += dump(v.Slice(0, v.Cap()).Index(i)) + " "
		}
		return s + "]"
	}
	return fmt.Sprintf("%#v", v.Interface())
}

// roomy returns a copy of a thing with something behind the ends of its lists, and a test that all of it is as it was.
func roomy[T any](x T) (T, func() bool) {
	c := roomyValue(reflect.ValueOf(x))
	before := dump(c)
	return c.Interface().(T), func() bool { return dump(c) == before }
}

// memory is where the lists of a thing lie.
func memory(v reflect.Value) [][2]uintptr {
	var l [][2]uintptr
	switch v.Kind() {
	case reflect.Struct:
		for i := range v.NumField() {
			l = append(l, memory(v.Field(i))...)
		}
	case reflect.Slice:
		if v.Cap() > 0 {
			from := v.Pointer()
			l = append(l, [2]uintptr{from, from + uintptr(v.Cap())*v.Type().Elem().Size()})
		}
		for i := range v.Len() {
			l = append(l, memory(v.Index(i))...)
		}
	}
	return l
}

// apart fails if two lists of some things share memory.
func apart(t *testing.T, things ...any) {
	t.Helper()
	var l [][2]uintptr
	for _, x := range things {
		l = append(l, memory(reflect.ValueOf(x))...)
	}
	slices.SortFunc(l, func(a, b [2]uintptr) int { return slices.Compare(a[:], b[:]) })
	for i := 1; i < len(l); i++ {
		if l[i][0] < l[i-1][1] {
			t.Fatal("memory is shared", len(things))
		}
	}
}

// R6: arguments are not changed, nor is what lies behind their ends; results share no memory with them, or with each other.
func TestArgumentsStay(t *testing.T) {
	d := &dice{}
	for range 60 {
		script := d.script(40)
		given, sameGiven := roomy(script)
		replies := ran(t, given)
		apart(t, given, replies)
		taken, sameTaken := roomy(replies)
		acceptIs(t, given, taken, api.OK, -1)
		lines, _ := port.Transcript(given, taken)
		apart(t, given, taken, lines)
		good(t, first(port.Check(given)))
		good(t, port.CheckSetting(given.Setting))
		port.Print(given.Commands)
		s := given.Setting
		l, sameEntries := roomy(d.entries(s, 9))
		stand, refused, _ := port.Fold(s, l, 5)
		apart(t, given, l, stand, refused)
		for range 5 {
			q, sameQuestion := roomy(d.question(s, 5))
			r := port.Answer(s, l, q)
			apart(t, given, l, q, r)
			again, sameReply := roomy(r)
			equal(t, port.CheckAnswer(s, l, q, again), api.OK)
			again.N++
			equal(t, port.CheckAnswer(s, l, q, again), api.ErrProof)
			again.N--
			equal(t, sameQuestion() && sameReply(), true, q)
		}
		book, sameBook := roomy([]string{"a", "b", "c", "d", "e", "f", "g", "h", "i", "j"}[:d.between(1, 10)])
		torn, _ := port.Torn(book, 0, 1, 0)
		apart(t, book, torn)
		equal(t, sameGiven() && sameTaken() && sameEntries() && sameBook(), true)
		commands := parsed(t, printed(t, given.Commands...))
		apart(t, given, commands)
	}
}

// R6: a port keeps no argument, and what it tells is new memory.
func TestPortsShareNothing(t *testing.T) {
	d := &dice{}
	for range 20 {
		script := d.script(80)
		given, _ := roomy(script)
		p, same := newPort(t, given.Setting), newPort(t, script.Setting)
		overwrite(reflect.ValueOf(&given.Setting).Elem())
		k := newClerks(script.Setting)
		for i, c := range script.Commands {
			k.do(c)
			r := p.Do(given.Commands[i])
			alike(t, r, same.Do(c), c)
			apart(t, given, r)
			overwrite(reflect.ValueOf(&r).Elem())
			overwrite(reflect.ValueOf(&given.Commands[i].Cargo).Elem())
			for _, a := range script.Setting.Wharves {
				known := p.Known(a)
				overwrite(reflect.ValueOf(&known).Elem())
				book := p.Book(a, script.Setting.Wharves[0])
				overwrite(reflect.ValueOf(&book).Elem())
			}
		}
		samePort(t, p, k)
	}
}

// overwrite writes over all memory of the lists of a thing, up to their capacity.
func overwrite(v reflect.Value) {
	switch v.Kind() {
	case reflect.Struct:
		for i := range v.NumField() {
			overwrite(v.Field(i))
		}
	case reflect.Slice:
		for i := range v.Len() {
			overwrite(v.Index(i))
		}
		whole := v.Slice(0, v.Cap())
		for i := range v.Cap() {
			mark(whole.Index(i))
		}
	}
}

// R5: commands with errors change nothing that later ones could tell, and neither does asking.
func TestErrorsChangeNothing(t *testing.T) {
	d := &dice{}
	wrong := 0
	for range 20 {
		how := d.season()
		p, same := newPort(t, how.setting), newPort(t, how.setting)
		for range 100 {
			for range d.between(0, 3) {
				c := d.act(how, p.Tick())
				if d.one(2) {
					c = d.wrongAct(how)
				}
				isQuestion := c.Kind >= api.CoMass
				if r := same.Do(c); r.Err == api.OK && !isQuestion {
					good(t, p.Do(c).Err, c)
				} else if r.Err != api.OK {
					alike(t, r, failed(r.Err), c)
					wrong++
				}
				same.Known(d.of(how.fields...))
				same.Book(d.of(how.fields...), d.of(how.fields...))
			}
			c := d.act(how, p.Tick())
			alike(t, p.Do(c), same.Do(c), c)
		}
		equal(t, p.Tick(), same.Tick())
		for _, a := range how.setting.Wharves {
			sameList(t, p.Known(a), same.Known(a))
			for _, b := range how.setting.Wharves {
				sameList(t, p.Book(a, b), same.Book(a, b))
			}
		}
	}
	equal(t, wrong > 1000, true, wrong)
}

// R7: the same scripts have the same replies, whatever was asked before.
func TestSameResultsAgain(t *testing.T) {
	d := &dice{}
	for range 20 {
		s := d.script(60)
		l := ran(t, s)
		for range 3 {
			ran(t, d.script(20))
			alike(t, ran(t, s), l)
			acceptIs(t, s, l, api.OK, -1)
		}
	}
}

// extremes calls f with each number of a thing set to extreme ones in turn.
func extremes(v reflect.Value, f func()) {
	switch v.Kind() {
	case reflect.Struct:
		for i := range v.NumField() {
			extremes(v.Field(i), f)
		}
	case reflect.Array, reflect.Slice:
		for i := range v.Len() {
			extremes(v.Index(i), f)
		}
	case reflect.Int:
		n := v.Int()
		for _, x := range []int64{minInt, -1, 61, 1 << 40, maxInt} {
			v.SetInt(x)
			f()
		}
		v.SetInt(n)
	}
}

// R1: no argument lets a function panic.
func TestNothingPanics(t *testing.T) {
	s := scriptOf(kindsOfCommands()...)
	l := ran(t, s)
	entries := book(5, kindsOfEntries()...)
	questions := s.Commands[4:]
	ask := func() {
		port.CheckSetting(s.Setting)
		port.New(s.Setting)
		port.Fold(s.Setting, entries, 5)
		for _, q := range questions {
			r := port.Answer(s.Setting, entries, q)
			port.CheckAnswer(s.Setting, entries, q, r)
		}
	}
	extremes(reflect.ValueOf(&s.Setting).Elem(), ask)
	extremes(reflect.ValueOf(&entries).Elem(), ask)
	extremes(reflect.ValueOf(&s.Commands).Elem(), func() {
		port.Check(s)
		port.Print(s.Commands)
		port.Accept(s, l)
		p := newPort(t, s.Setting)
		for _, c := range s.Commands {
			p.Do(c)
		}
	})
	extremes(reflect.ValueOf(&l).Elem(), func() {
		port.Accept(s, l)
		port.Transcript(s, l)
		for i, q := range questions {
			port.CheckAnswer(s.Setting, entries, q, l[4+i])
		}
	})
	p := newPort(t, full())
	for _, n := range []int{minInt, -1, 0, 5, 61, 1 << 61, maxInt} {
		port.Fold(s.Setting, entries, n)
		p.Known(n)
		for _, k := range []int{minInt, -1, 0, 5, 61, 1 << 61, maxInt} {
			p.Book(n, k)
			port.Torn([]string{"a"}, n, k, k)
			port.Torn([]string{"a"}, 0, n, k)
		}
	}
	for _, x := range []string{"tell 1 ", "due 5 ", "tick ", "x ", " ", "\n", "\x00\xff", strings.Repeat("9", 1000)} {
		for _, y := range []string{"", ";", " ", "\n", "-", "5", " 5;\n", strings.Repeat(" ", 1000)} {
			port.Read(x + y)
			port.Parse(x + y)
		}
	}
}
