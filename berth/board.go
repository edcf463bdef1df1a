package berth

import (
	"slices"

	"kentledge/api"
)

// aside is the tide of slots in which ships without a stay lie: each has one of her own there, with her ID as the berth.
const aside = -1

// price is what it costs that ships lie where they do. Of two plans that one is wanted whose price, the sum of those of its ships, is the lesser list; no two plans have the same one.
type price [ranks + api.MaxCalls]int

// The numbers of a price.
const (
	left    = 0 // ships without a stay
	changes = 1 // old stays that are changed
	ranks   = 2 // from here on for each ship, by her index, how many slots that she can take are lesser
)

func (p price) plus(q price) price {
	for i := range p {
		p[i] += q[i]
	}
	return p
}

func (p price) minus(q price) price {
	for i := range p {
		p[i] -= q[i]
	}
	return p
}

func (p price) isLess(q price) bool { return slices.Compare(p[:], q[:]) < 0 }

// option is a stay that a ship (her index) can have, or her slot aside.
type option struct {
	api.Stay
	ship  int
	price price
}

func (o option) isAside() bool { return o.Slot.Tide == aside }

// options returns the options of a ship that can have some stays; old are the slots that ships had before, by their IDs.
func options(ship int, c api.Call, stays []api.Stay, old map[int]api.Slot) []option {
	var l []option
	before, had := old[c.ID]
	for rank, s := range stays {
		o := option{Stay: s, ship: ship}
		o.price[ranks+ship] = rank
		if had && s.Slot != before {
			o.price[changes] = 1
		}
		l = append(l, o)
	}
	none := option{Stay: api.Stay{Call: c.ID, Slot: api.Slot{Tide: aside, Berth: c.ID}}, ship: ship}
	none.price[left] = 1
	none.price[ranks+ship] = len(stays)
	if had {
		none.price[changes] = 1
	}
	return append(l, none)
}

// board is the options of ships, by their indices, and the one that each has.
type board struct {
	options [][]option
	has     []option
}

// arrange gives each ship an option, so that all together have the least price. The ships come in one by one: for each, others are moved so that the price stays the least one for those that are in.
func arrange(h api.Harbour, l []api.Call, old map[int]api.Slot) board {
	b := board{has: make([]option, len(l))}
	berthed := map[api.Slot]int{}
	who := func(x api.Slot) (int, bool) {
		ship, is := berthed[x]
		return ship, is
	}
	stays := taking(h)
	for ship, c := range l {
		b.options = append(b.options, options(ship, c, stays(c), old))
		for _, o := range b.comeIn(ship, who) {
			b.has[o.ship], berthed[o.Slot] = o, o.ship
		}
	}
	return b
}

// way ends with an option for which a ship leaves what she has, and makes all together cost so much more.
type way struct {
	option
	more price
}

// comeIn returns the options that a ship that comes in, and the ships that make room one for the other, move to: the cheapest way, the last ship first.
func (b board) comeIn(ship int, who func(api.Slot) (int, bool)) []option {
	ways := map[api.Slot]way{} // the cheapest one that was found to each slot
	var last way
	found := false
	movers := []int{ship}
	for len(movers) > 0 {
		mover := movers[0]
		movers = movers[1:]
		has := b.has[mover] // of the ship that comes in it is zero, with a slot to which there is no way
		for _, o := range b.options[mover] {
			w := way{option: o, more: ways[has.Slot].more.plus(o.price).minus(has.price)}
			if other, is := ways[o.Slot]; is && !w.more.isLess(other.more) {
				continue
			}
			ways[o.Slot] = w
			if next, is := who(o.Slot); is {
				movers = append(movers, next) // again, if she was moved: it has become cheaper
			} else if !found || w.more.isLess(last.more) {
				last, found = w, true
			}
		}
	}
	moves := []option{last.option}
	for mover := last.ship; mover != ship; {
		w := ways[b.has[mover].Slot]
		moves = append(moves, w.option)
		mover = w.ship
	}
	return moves
}

// stays returns the plan of a board.
func (b board) stays() []api.Stay {
	var l []api.Stay
	for _, o := range b.has {
		if !o.isAside() {
			l = append(l, o.Stay)
		}
	}
	return l
}

// spare returns the ships that have no stay in some plan with the most ships: those that lie aside, and those whose slots they can take from them, one from the other.
func (b board) spare() []int {
	var ships []int
	wanted := map[api.Slot]bool{} // by one of them
search:
	for {
		for ship, o := range b.has {
			if slices.Contains(ships, ship) || !o.isAside() && !wanted[o.Slot] {
				continue
			}
			ships = append(ships, ship)
			for _, other := range b.options[ship] {
				wanted[other.Slot] = true
			}
			continue search // she can move those that were passed over
		}
		return ships
	}
}
