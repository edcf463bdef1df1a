package berth

import (
	"slices"

	"kentledge/api"
)

// Most returns how many ships can be berthed.
func Most(h api.Harbour, l []api.Call) (int, api.Errno) {
	p, e := Plan(h, l)
	return len(p), e
}

// Plan returns the first plan with the most ships.
func Plan(h api.Harbour, l []api.Call) ([]api.Stay, api.Errno) { return Change(h, l, nil) }

// CheckPlan returns OK if stays are a plan.
func CheckPlan(h api.Harbour, l []api.Call, p []api.Stay) api.Errno {
	if e := CheckCalls(h, l); e != api.OK {
		return e
	}
	if !isPlan(h, l, p) {
		return api.ErrProof
	}
	return api.OK
}

// isPlan goes through the ships, and takes the stay that is next if it is that of the ship: if some are left over, they are not in the ships' order, or of none.
func isPlan(h api.Harbour, l []api.Call, p []api.Stay) bool {
	stays := taking(h)
	taken := map[api.Slot]bool{}
	for _, c := range l {
		if len(p) == 0 || p[0].Call != c.ID {
			continue
		}
		if taken[p[0].Slot] || !slices.Contains(stays(c), p[0]) {
			return false
		}
		taken[p[0].Slot] = true
		p = p[1:]
	}
	return len(p) == 0
}

// Full returns ships and slots that show that no more can be berthed than Most.
func Full(h api.Harbour, l []api.Call) (api.Crowd, bool, api.Errno) {
	if e := CheckCalls(h, l); e != api.OK {
		return api.Crowd{}, false, e
	}
	// All slots that the ships that are spare can take are taken by such ships, so that just those that lie aside are too many for them.
	var ids []int
	for _, ship := range arrange(h, l, nil).spare() {
		ids = append(ids, l[ship].ID)
	}
	if len(ids) == 0 {
		return api.Crowd{}, false, api.OK
	}
	slices.Sort(ids)
	return api.Crowd{Calls: ids, Slots: slotsOf(h, l, ids)}, true, api.OK
}

// slotsOf returns, in order, all slots that at least one of some ships (their IDs) can take.
func slotsOf(h api.Harbour, l []api.Call, ids []int) []api.Slot {
	stays := taking(h)
	wanted := map[api.Slot]bool{}
	for _, c := range l {
		if !slices.Contains(ids, c.ID) {
			continue
		}
		for _, s := range stays(c) {
			wanted[s.Slot] = true
		}
	}
	var all []api.Slot
	for x := range slots(h) {
		if wanted[x] {
			all = append(all, x)
		}
	}
	return all
}

// CheckFull returns how many ships a crowd shows to be left over.
func CheckFull(h api.Harbour, l []api.Call, x api.Crowd) (int, api.Errno) {
	if e := CheckCalls(h, l); e != api.OK {
		return 0, e
	}
	over := len(x.Calls) - len(x.Slots)
	if over < 1 || !areShips(l, x.Calls) || !slices.Equal(x.Slots, slotsOf(h, l, x.Calls)) {
		return 0, api.ErrProof
	}
	return over, api.OK
}

// areShips reports whether IDs are those of some ships, in increasing order.
func areShips(l []api.Call, ids []int) bool {
	for i, id := range ids {
		_, is := first(slices.Values(l), func(c api.Call) bool { return c.ID == id })
		if !is || i > 0 && id <= ids[i-1] {
			return false
		}
	}
	return true
}

// Sure returns the ships that are berthed in all plans with the most ships.
func Sure(h api.Harbour, l []api.Call) ([]int, api.Errno) {
	if e := CheckCalls(h, l); e != api.OK {
		return nil, e
	}
	spare := arrange(h, l, nil).spare()
	var ids []int
	for ship, c := range l {
		if !slices.Contains(spare, ship) {
			ids = append(ids, c.ID)
		}
	}
	slices.Sort(ids)
	return ids, api.OK
}

// Change returns the plan with the most ships that changes the fewest old stays.
func Change(h api.Harbour, l []api.Call, old []api.Stay) ([]api.Stay, api.Errno) {
	if e := CheckCalls(h, l); e != api.OK {
		return nil, e
	}
	if len(old) > api.MaxCalls {
		return nil, api.ErrLimit
	}
	return arrange(h, l, firsts(old)).stays(), api.OK
}

// firsts returns the slot of the first stay of each ship, by her ID.
func firsts(l []api.Stay) map[int]api.Slot {
	slots := map[int]api.Slot{}
	for _, s := range l {
		if _, is := slots[s.Call]; !is {
			slots[s.Call] = s.Slot
		}
	}
	return slots
}

// Changed returns the ships whose old stays are others, or none, in a plan.
func Changed(old, now []api.Stay) []int {
	behind := firsts(now)
	var ids []int
	for id, before := range firsts(old) {
		if slot, is := behind[id]; !is || slot != before {
			ids = append(ids, id)
		}
	}
	slices.Sort(ids)
	return ids
}
