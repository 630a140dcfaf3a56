package assembly

import "spokeshave/api"

// Moves reports whether a set of parts moves out of all parts in a way.
func Moves(l []api.Solid, out []int, w api.Way) (bool, api.Errno) {
	p, e := partsOf(l)
	if e != api.OK {
		return false, e
	}
	moved, e := readSet(out, p.count())
	if e != api.OK {
		return false, e
	}
	if e := checkWay(w); e != api.OK {
		return false, e
	}
	return p.graph(w).moves(moved, p.all()), api.OK
}

// Carried returns what is carried by a part in all parts, in a way.
func Carried(l []api.Solid, part int, w api.Way) ([]int, api.Errno) {
	p, e := partsOf(l)
	if e != api.OK {
		return nil, e
	}
	if !p.all().has(part) {
		return nil, api.ErrMissing
	}
	if e := checkWay(w); e != api.OK {
		return nil, e
	}
	return p.graph(w).carried(part, p.all()).list(), api.OK
}

// Free returns for each part the ways in which it moves out alone.
func Free(l []api.Solid) ([][]api.Way, api.Errno) {
	p, e := partsOf(l)
	if e != api.OK {
		return nil, e
	}
	free := make([][]api.Way, p.count())
	for w := range ways() {
		for part := range free {
			if p.graph(w).moves(setOf(part), p.all()) {
				free[part] = append(free[part], w)
			}
		}
	}
	return free, api.OK
}

// Clusters returns the clusters of parts in a way.
func Clusters(l []api.Solid, w api.Way) ([][]int, api.Errno) {
	g, e := graphOf(l, w)
	if e != api.OK {
		return nil, e
	}
	var clusters [][]int
	for rest := g.all(); rest != 0; {
		c := g.firstCluster(rest)
		clusters = append(clusters, c.list())
		rest &^= c
	}
	return clusters, api.OK
}

// firstCluster returns, of those clusters of a group that are not blocked by others of it, the one with the least part.
func (g graph) firstCluster(group set) set {
	for part := range group.each() {
		if c := g.cluster(part, group); g.moves(c, group) {
			return c
		}
	}
	return group
}
