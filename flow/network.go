package flow

import (
	"iter"
	"slices"

	"kentledge/api"
)

// outside is the node from which all comes that holders held at the beginning, and to which all goes that they hold at the end. The holder with the index i is the node i + 1.
const outside = 0

// The ends of an edge.
const (
	from = 0
	to   = 1
)

// nodes tells for each node whether it is one of them.
type nodes [api.MaxHolders + 1]bool

// edge is a movement between two nodes, and the mass that flows on it. What holders held and hold are movements from outside and to outside, whose ID is 0.
type edge struct {
	api.Move
	ends [2]int
	flow int
}

// room returns how much more can flow away from one of the ends: more of the mass, or less of it in the other direction. It is not positive while there is too little of it.
func (e edge) room(end int) int {
	if end == from {
		return e.Mass.Hi - e.flow
	}
	return e.flow - e.Mass.Lo
}

// network is a trade as edges: what the holders held, then what they hold, then the movements. In each node as much flows in as out, so that a network whose masses lie within their spans is a course.
type network struct {
	ids   []int // of the holders
	edges []edge
}

// newNetwork returns the network of a valid trade, in which nothing flows.
func newNetwork(t api.Trade) *network {
	n := &network{}
	for i, h := range t.Holders {
		n.ids = append(n.ids, h.ID)
		n.edges = append(n.edges, edge{Move: api.Move{To: h.ID, Mass: h.Start}, ends: [2]int{outside, i + 1}})
	}
	for i, h := range t.Holders {
		n.edges = append(n.edges, edge{Move: api.Move{From: h.ID, Mass: h.End}, ends: [2]int{i + 1, outside}})
	}
	for _, m := range t.Moves {
		ends := [2]int{holderAt(t.Holders, m.From) + 1, holderAt(t.Holders, m.To) + 1}
		n.edges = append(n.edges, edge{Move: m, ends: ends})
	}
	return n
}

// step leads from an end of an edge (its index) to the other one; so much more can flow there.
type step struct{ edge, end, room int }

// steps yields the steps away from a node on which more can flow, but for those on the edge except.
func (n *network) steps(node, except int) iter.Seq[step] {
	return func(yield func(step) bool) {
		for i := range len(n.edges) {
			for end := range 2 {
				s := step{edge: i, end: end, room: n.edges[i].room(end)}
				if i != except && n.edges[i].ends[end] == node && s.room > 0 && !yield(s) {
					return
				}
			}
		}
	}
}

// way returns steps, the last one first, from a node to another one, without the edge except, and the nodes that were reached. If the other one is not among these, they are all nodes to which more can flow.
func (n *network) way(first, last, except int) ([]step, nodes) {
	var reached nodes
	reached[first] = true
	var by [api.MaxHolders + 1]step
	queue := []int{first}
search:
	for len(queue) > 0 {
		node := queue[0]
		queue = queue[1:]
		for s := range n.steps(node, except) {
			next := n.edges[s.edge].ends[1-s.end]
			if reached[next] {
				continue
			}
			reached[next], by[next] = true, s
			if next == last {
				break search
			}
			queue = append(queue, next)
		}
	}
	if !reached[last] {
		return nil, reached
	}
	var steps []step
	for node := last; node != first; {
		s := by[node]
		steps = append(steps, s)
		node = n.edges[s.edge].ends[s.end]
	}
	return steps, reached
}

// bring changes the mass on an edge to a goal, and lets as much flow round on others. If this cannot be, it comes as near to the goal as can be; then all to which more can flow from the one end of the edge are returned, and false.
func (n *network) bring(i, goal int) (nodes, bool) {
	for n.edges[i].flow != goal {
		end := from
		if n.edges[i].flow < goal {
			end = to
		}
		steps, reached := n.way(n.edges[i].ends[end], n.edges[i].ends[1-end], i)
		if len(steps) == 0 {
			return reached, false
		}
		n.push(i, goal, steps)
	}
	return nodes{}, true
}

// push changes the mass on an edge towards a goal by as much as some steps, on which it flows round, have room for.
func (n *network) push(i, goal int, steps []step) {
	room := steps[0].room
	for _, s := range steps {
		room = min(room, s.room)
	}
	e := &n.edges[i]
	before := e.flow
	e.flow = bounded(goal, before-room, before+room)
	much := max(e.flow-before, before-e.flow)
	for _, s := range steps {
		if s.end == from {
			n.edges[s.edge].flow += much
		} else {
			n.edges[s.edge].flow -= much
		}
	}
}

// settle makes the network a course, edge by edge. If it cannot be one, a cut that contradicts the trade is returned, and false.
func (n *network) settle() (api.Cut, bool) {
	for i := range len(n.edges) {
		e := n.edges[i]
		if reached, is := n.bring(i, bounded(e.flow, e.Mass.Lo, e.Mass.Hi)); !is {
			return n.cut(reached), false
		}
	}
	return api.Cut{}, true
}

// cut returns the cut around the nodes that were reached from an edge that could not be brought to its goal: what leads away from them is full, what leads to them has no more than it must, and yet more would have to flow to them than away. Where outside is among them, it is the cut around all others, in the other way.
func (n *network) cut(reached nodes) api.Cut {
	c := api.Cut{Way: api.CuIn}
	if reached[outside] {
		c.Way = api.CuOut
	}
	for i, id := range n.ids {
		if reached[i+1] != reached[outside] {
			c.Holders = append(c.Holders, id)
		}
	}
	slices.Sort(c.Holders)
	return c
}

// through returns what goes through a cut that is formed.
func (n *network) through(c api.Cut) int {
	sum := 0
	for i := range len(n.edges) {
		e := n.edges[i]
		out := slices.Contains(c.Holders, e.From)
		if out == slices.Contains(c.Holders, e.To) {
			continue
		}
		if out == (c.Way == api.CuOut) {
			sum += e.Mass.Lo
		} else {
			sum -= e.Mass.Hi
		}
	}
	return sum
}

// course returns what flows in a network.
func (n *network) course() api.Course {
	var c api.Course
	for i := range len(n.edges) {
		m := n.edges[i].flow
		switch {
		case i < len(n.ids):
			c.Start = append(c.Start, m)
		case i < 2*len(n.ids):
			c.End = append(c.End, m)
		default:
			c.Mass = append(c.Mass, m)
		}
	}
	return c
}

// limits returns the least and the greatest mass that can flow on an edge of a network that is a course; which course it is may be another one then.
func (n *network) limits(i int) api.Span {
	n.bring(i, n.edges[i].Mass.Lo)
	lo := n.edges[i].flow
	n.bring(i, n.edges[i].Mass.Hi)
	return api.Span{Lo: lo, Hi: n.edges[i].flow}
}
