package berth_test

import (
	"slices"
	"testing"

	"kentledge/api"
	"kentledge/berth"
)

// P6.8, P6.9: the chapter's examples.
func TestExamplesOfLeases(t *testing.T) {
	l := leases()
	x, n, e := berth.Lighters(l)
	good(t, e)
	sameList(t, x, []int{0, 1, 0})
	equal(t, n, 2)
	tick, n, e := berth.Busiest(l)
	good(t, e)
	equal(t, tick, 5)
	equal(t, n, 2)
	q, e := berth.Queue(l[:2])
	good(t, e)
	sameList(t, q, []api.Lease{lease(1, 1, 0, 9), lease(2, 1, 10, 19)})
	p, e := berth.Clashes(l)
	good(t, e)
	sameList(t, p, [][2]int{{1, 2}})
}

// wrongLeases are leases with an error.
func wrongLeases() []struct {
	l    []api.Lease
	want api.Errno
} {
	type row = struct {
		l    []api.Lease
		want api.Errno
	}
	bad, again, both := lease(9, 0, 0, 1), lease(1, 1, 50, 60), lease(1, 1, 5, 4)
	list := []row{
		{make([]api.Lease, api.MaxLeases+1), api.ErrLimit},
		{append(leases(), again), api.ErrTwice},
		{append(leases(), both), api.ErrArg},
		{append(leases(), again, bad), api.ErrTwice},
		{append(leases(), bad, again), api.ErrArg},
		{append(leases(), again, both), api.ErrTwice},
		{make([]api.Lease, 1), api.ErrArg},
	}
	for _, n := range []int{0, -1, api.MaxID + 1, minInt, maxInt} {
		list = append(list, row{[]api.Lease{lease(n, 1, 0, 9)}, api.ErrArg}, row{append(leases(), lease(4, n, 0, 9)), api.ErrArg})
	}
	for _, s := range wrongSpans() {
		list = append(list, row{append(leases(), lease(4, 1, s.Lo, s.Hi)), api.ErrArg})
	}
	return list
}

// crowded are as many leases as can be, all at once.
func crowded() []api.Lease {
	var l []api.Lease
	for i := range api.MaxLeases {
		l = append(l, lease(api.MaxID-i, api.MaxID-i%3, 0, api.MaxTick/20))
	}
	return l
}

// P6.8, R3: CheckLeases.
func TestCheckLeases(t *testing.T) {
	for i, l := range [][]api.Lease{nil, leases(), crowded(), {lease(1, api.MaxID, 0, 0)}, {lease(api.MaxID, 1, 0, api.MaxTick)}, {lease(1, 1, api.MaxTick, api.MaxTick)}} {
		equal(t, berth.CheckLeases(l), api.OK, i)
	}
	for i, x := range wrongLeases() {
		equal(t, berth.CheckLeases(x.l), x.want, i)
	}
	equal(t, berth.CheckLeases(append(crowded(), lease(1, 1, 0, 0))), api.ErrLimit)
}

// P6.8, P6.9, R3, R4: with an error of the leases there is nothing else, whatever else is wrong.
func TestErrorsOfLeasesComeFirst(t *testing.T) {
	for i, x := range wrongLeases() {
		lighters, n, e := berth.Lighters(x.l)
		equal(t, e, x.want, i)
		equal(t, len(lighters)+n, 0, i)
		equal(t, berth.CheckLighters(x.l, nil), x.want, i)
		equal(t, berth.CheckLighters(x.l, make([]int, len(x.l))), x.want, i)
		tick, n, e := berth.Busiest(x.l)
		equal(t, e, x.want, i)
		equal(t, tick+n, 0, i)
		pairs, e := berth.Clashes(x.l)
		equal(t, e, x.want, i)
		equal(t, len(pairs), 0, i)
		queue, e := berth.Queue(x.l)
		equal(t, e, x.want, i)
		equal(t, len(queue), 0, i)
		late := append(slices.Clone(x.l), lease(30, 7, api.MaxTick, api.MaxTick), lease(31, 7, api.MaxTick, api.MaxTick))
		_, e = berth.Queue(late)
		equal(t, e, x.want, i)
	}
}

func isAt(x api.Lease, tick int) bool { return x.Span.Lo <= tick && tick <= x.Span.Hi }

// areAtOnceByWords tells whether two leases have a minute in common.
func areAtOnceByWords(x, y api.Lease) bool {
	for tick := x.Span.Lo; tick <= x.Span.Hi; tick++ {
		if isAt(y, tick) {
			return true
		}
	}
	return false
}

// turns are the indices of leases, by their beginnings.
func turns(l []api.Lease) []int {
	var list []int
	for tick := range 100 {
		for i, x := range l {
			if x.Span.Lo == tick {
				list = append(list, i)
			}
		}
	}
	return list
}

// lightersByWords gives each lease the least number that it can have, one after the other.
func lightersByWords(l []api.Lease) []int {
	lighters := make([]int, len(l))
	gone := []int{}
	for _, i := range turns(l) {
		isFree := func(n int) bool {
			return !slices.ContainsFunc(gone, func(j int) bool { return lighters[j] == n && areAtOnceByWords(l[i], l[j]) })
		}
		for !isFree(lighters[i]) {
			lighters[i]++
		}
		gone = append(gone, i)
	}
	return lighters
}

// P6.8: Lighters and Busiest, minute by minute.
func TestLightersByWords(t *testing.T) {
	d := &dice{state: 1}
	met := map[int]int{}
	for range 1500 {
		l := d.leases(9, 3, 15)
		got, n, e := berth.Lighters(l)
		good(t, e, l)
		sameList(t, got, lightersByWords(l), l)
		want := 0
		for _, x := range got {
			want = max(want, x+1)
		}
		equal(t, n, want, l)
		met[n]++
		tick, n, e := berth.Busiest(l)
		good(t, e, l)
		first, most := 0, 0
		for tick := range 20 {
			many := 0
			for _, x := range l {
				if isAt(x, tick) {
					many++
				}
			}
			if many > most {
				first, most = tick, many
			}
		}
		equal(t, tick, first, l)
		equal(t, n, most, l)
	}
	enough(t, met, 20, 0, 1, 2, 3, 4, 5)
}

// P6.8: of equal beginnings the order of the list counts; leases that only follow each other are not at once; and the limits.
func TestEdgesOfLighters(t *testing.T) {
	for i, x := range []struct {
		l     []api.Lease
		want  []int
		tick  int
		count int
	}{
		{nil, nil, 0, 0},
		{[]api.Lease{lease(1, 1, 7, 7)}, []int{0}, 7, 1},
		{[]api.Lease{lease(9, 1, 5, 6), lease(2, 1, 5, 9), lease(1, 1, 5, 5)}, []int{0, 1, 2}, 5, 3},
		{[]api.Lease{lease(1, 1, 10, 19), lease(2, 1, 5, 10), lease(3, 1, 0, 9)}, []int{0, 1, 0}, 5, 2},
		{[]api.Lease{lease(1, 1, 10, 19), lease(2, 1, 5, 9), lease(3, 1, 0, 4)}, []int{0, 0, 0}, 0, 1},
		{[]api.Lease{lease(1, 1, 0, 20), lease(2, 1, 0, 4), lease(3, 1, 2, 9), lease(4, 1, 5, 7), lease(5, 1, 10, 12)}, []int{0, 1, 2, 1, 1}, 2, 3},
		{[]api.Lease{lease(1, 1, api.MaxTick, api.MaxTick), lease(2, 2, 0, api.MaxTick)}, []int{1, 0}, api.MaxTick, 2},
	} {
		lighters, n, e := berth.Lighters(x.l)
		good(t, e, i)
		sameList(t, lighters, x.want, i)
		equal(t, n, x.count, i)
		tick, n, e := berth.Busiest(x.l)
		good(t, e, i)
		equal(t, tick, x.tick, i)
		equal(t, n, x.count, i)
	}
	l := crowded()
	lighters, n, e := berth.Lighters(l)
	good(t, e)
	equal(t, n, api.MaxLeases)
	for i := range l {
		equal(t, lighters[i], i)
	}
}

// P6.8: CheckLighters, for all numbers of few lighters.
func TestCheckLighters(t *testing.T) {
	d := &dice{state: 2}
	met := map[api.Errno]int{}
	for range 300 {
		l := d.leases(4, 3, 15)
		for code := range 81 {
			lighters := []int{code % 3, code / 3 % 3, code / 9 % 3, code / 27}[:len(l)]
			want := api.OK
			for i, x := range l {
				for j, y := range l[:i] {
					if lighters[i] == lighters[j] && areAtOnceByWords(x, y) {
						want = api.ErrProof
					}
				}
			}
			equal(t, berth.CheckLighters(l, lighters), want, l, lighters)
			met[want]++
		}
	}
	enough(t, met, 1000, api.OK, api.ErrProof)
	l := leases()
	for i, x := range [][]int{nil, {}, {0}, {0, 1}, {0, 1, 0, 0}, {0, 1, 0, 2}, {0, -1, 0}, {-1, 0, 1}, {0, 1, -1}, {minInt, 1, 0}, {0, 0, 0}, {1, 1, 0}, {0, 1, 1}, {maxInt, maxInt, 0}} {
		equal(t, berth.CheckLighters(l, x), api.ErrProof, i)
	}
	for i, x := range [][]int{{0, 1, 0}, {5, 2, 5}, {0, 1, 2}, {maxInt, 0, maxInt}, {maxInt, 1 << 40, 0}} {
		equal(t, berth.CheckLighters(l, x), api.OK, i)
	}
	equal(t, berth.CheckLighters(nil, nil), api.OK)
	equal(t, berth.CheckLighters(nil, []int{0}), api.ErrProof)
}

// P6.9: Clashes by the chapter's words.
func TestClashesByWords(t *testing.T) {
	d := &dice{state: 3}
	met := map[int]int{}
	for range 1000 {
		l := d.leases(8, 3, 15)
		var want [][2]int
		for a := range 50 {
			for b := a + 1; b < 50; b++ {
				for _, x := range l {
					for _, y := range l {
						if x.ID == a && y.ID == b && x.Heap == y.Heap && areAtOnceByWords(x, y) {
							want = append(want, [2]int{a, b})
						}
					}
				}
			}
		}
		got, e := berth.Clashes(l)
		good(t, e, l)
		sameList(t, got, want, l)
		met[min(len(got), 4)]++
	}
	enough(t, met, 50, 0, 1, 2, 3, 4)
	pairs, e := berth.Clashes(crowded())
	good(t, e)
	equal(t, len(pairs), 14*13/2+13*12/2+13*12/2)
}

// queueByWords is the queue of leases, the heaps one after the other.
func queueByWords(l []api.Lease) []api.Lease {
	queue := slices.Clone(l)
	for heap := range 5 {
		behind := 0
		for _, i := range turns(l) {
			if l[i].Heap != heap {
				continue
			}
			long := l[i].Span.Hi - l[i].Span.Lo
			begin := l[i].Span.Lo
			if behind > begin {
				begin = behind
			}
			queue[i].Span = span(begin, begin+long)
			behind = begin + long + 1
		}
	}
	return queue
}

// P6.9: Queue by the chapter's words.
func TestQueueByWords(t *testing.T) {
	d := &dice{state: 4}
	met := map[bool]int{}
	for range 1000 {
		l := d.leases(9, 3, 15)
		got, e := berth.Queue(l)
		good(t, e, l)
		sameList(t, got, queueByWords(l), l)
		met[slices.Equal(got, l)]++
	}
	enough(t, met, 100, true, false)
}

// P6.9: equal beginnings, a wait that is passed on, and the end of the season.
func TestEdgesOfQueue(t *testing.T) {
	last := api.MaxTick
	for i, x := range []struct{ l, want []api.Lease }{
		{nil, nil},
		{[]api.Lease{lease(9, 1, 5, 6), lease(2, 1, 5, 9), lease(1, 1, 5, 5)}, []api.Lease{lease(9, 1, 5, 6), lease(2, 1, 7, 11), lease(1, 1, 12, 12)}},
		{[]api.Lease{lease(1, 1, 8, 9), lease(2, 1, 3, 7), lease(3, 1, 0, 5), lease(4, 2, 1, 3)}, []api.Lease{lease(1, 1, 11, 12), lease(2, 1, 6, 10), lease(3, 1, 0, 5), lease(4, 2, 1, 3)}},
		{[]api.Lease{lease(1, 1, 0, 5), lease(2, 1, 6, 7), lease(3, 1, 9, 9)}, []api.Lease{lease(1, 1, 0, 5), lease(2, 1, 6, 7), lease(3, 1, 9, 9)}},
		{[]api.Lease{lease(1, 1, last-1, last-1), lease(2, 1, last-1, last-1), lease(3, 2, 0, last)}, []api.Lease{lease(1, 1, last-1, last-1), lease(2, 1, last, last), lease(3, 2, 0, last)}},
	} {
		got, e := berth.Queue(x.l)
		good(t, e, i)
		sameList(t, got, x.want, i)
	}
	for i, l := range [][]api.Lease{
		{lease(1, 1, last, last), lease(2, 1, last, last)},
		{lease(1, 1, 0, last), lease(2, 1, last, last)},
		{lease(1, 2, 0, 5), lease(2, 1, last-5, last-1), lease(3, 1, last-4, last-3)},
		{lease(1, 1, 0, last), lease(2, 1, 0, last)},
	} {
		got, e := berth.Queue(l)
		equal(t, e, api.ErrLimit, i)
		equal(t, len(got), 0, i)
	}
	got, e := berth.Queue(crowded()) // of no heap so many that the season is too short
	good(t, e)
	equal(t, got[39].Span.Lo, 13*(api.MaxTick/20+1))
}
