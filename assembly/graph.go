package assembly

import "spokeshave/api"

// graph has for each part the set of those that it is blocked by in a way.
type graph []set

// Graph returns for each part the parts that it is blocked by in a way.
func Graph(l []api.Solid, w api.Way) ([][]int, api.Errno) {
	g, e := graphOf(l, w)
	if e != api.OK {
		return nil, e
	}
	var lists [][]int
	for _, blockers := range g {
		lists = append(lists, blockers.list())
	}
	return lists, api.OK
}

// graphOf returns the graph of parts in a way.
func graphOf(l []api.Solid, w api.Way) (graph, api.Errno) {
	p, e := partsOf(l)
	if e != api.OK {
		return nil, e
	}
	if e := checkWay(w); e != api.OK {
		return nil, e
	}
	return p.graph(w), api.OK
}

// all returns the set of all parts.
func (g graph) all() set {
	return 1<<len(g) - 1
}

// reversed returns for each part the set of those that are blocked by it.
func (g graph) reversed() graph {
	r := make(graph, len(g))
	for part, blockers := range g {
		for other := range blockers.each() {
			r[other] |= setOf(part)
		}
	}
	return r
}

// moves reports whether a set moves out of a group.
func (g graph) moves(out, group set) bool {
	for part := range out.each() {
		if !(g[part] & group).within(out) {
			return false
		}
	}
	return true
}

// carried returns what is carried by a part in a group.
func (g graph) carried(part int, group set) set {
	carried := setOf(part)
	for !g.moves(carried, group) {
		for other := range carried.each() {
			carried |= g[other] & group
		}
	}
	return carried
}

// cluster returns the cluster of a part in a group: what it carries that also carries it.
func (g graph) cluster(part int, group set) set {
	var c set
	for other := range g.carried(part, group).each() {
		if g.carried(other, group).has(part) {
			c |= setOf(other)
		}
	}
	return c
}
