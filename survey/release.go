package survey

import (
	"kentledge/api"
	"kentledge/hull"
)

// Load returns all loadings of a ship that some surveys allow.
func Load(s api.Ship, b api.Bulbs, l []api.Survey) (api.Load, api.Errno) {
	all, e := Together(s, b, l)
	if e != api.OK {
		return api.Load{}, e
	}
	load := api.Load{All: api.Span{Lo: all.Lo - s.Light, Hi: all.Hi - s.Light}}
	for _, h := range s.Holds {
		load.Holds = append(load.Holds, api.Span{Hi: h.Room})
	}
	if e := hull.CheckLoad(s, load); e != api.OK {
		return api.Load{}, e
	}
	return load, api.OK
}

// Release reports whether a ship is steady, and clear of the ground, in all loadings that some surveys allow.
func Release(s api.Ship, b api.Bulbs, l []api.Survey, depth, keel int) (bool, api.Errno) {
	load, e := Load(s, b, l)
	if e != api.OK {
		return false, e
	}
	_, steady, e := hull.Steady(s, load)
	if e != api.OK {
		return false, e
	}
	clears, e := hull.Clear(s, load, depth, keel)
	if e != api.OK {
		return false, e
	}
	return steady && clears, api.OK
}
