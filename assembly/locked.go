package assembly

import (
	"slices"

	"spokeshave/api"
)

const (
	countWays = 26
	maxWalk   = 200
)

// CheckLocked accepts a locked cluster of parts.
func CheckLocked(l []api.Solid, c api.Locked) api.Errno {
	p, e := partsOf(l)
	if e != api.OK {
		return e
	}
	cluster, e := readSet(c.Cluster, p.count())
	if e != api.OK {
		return e
	}
	if cluster.size() < 2 || len(c.Walks) != countWays {
		return api.ErrShape
	}
	for i, w := range Ways() {
		if len(c.Walks[i]) > maxWalk {
			return api.ErrLarge
		}
		if !p.graph(w).closes(c.Walks[i], cluster) {
			return api.ErrProof
		}
	}
	return api.OK
}

// closes reports whether a list is a closed walk through a cluster.
func (g graph) closes(walk []int, cluster set) bool {
	var seen set
	for i, part := range walk {
		next := walk[(i+1)%len(walk)]
		if !cluster.has(part) || !g[part].has(next) {
			return false
		}
		seen |= setOf(part)
	}
	return seen == cluster
}

// locked returns the locked cluster of a group that cannot be split.
func (p parts) locked(group set) api.Locked {
	c := api.Locked{Cluster: group.list()}
	for w := range ways() {
		c.Walks = append(c.Walks, p.graph(w).walk(group))
	}
	return c
}

// walk returns a closed walk through a group in which each part carries all: from each part on to the next one. It has less than 12 times 12 elements.
func (g graph) walk(group set) []int {
	var walk []int
	list := group.list()
	for i, part := range list {
		next := list[(i+1)%len(list)]
		walk = append(walk, g.path(part, next, group)...)
	}
	return walk
}

// path returns a shortest list of parts of a group, each one blocked by the next one, from a part on until, and without, one that it carries.
func (g graph) path(from, to int, group set) []int {
	// Goes back from the end, so that each part that is found knows the next one on its path.
	next := map[int]int{to: to}
	for queue := []int{to}; len(queue) > 0; queue = queue[1:] {
		for part := range group.each() {
			if _, found := next[part]; !found && g[part].has(queue[0]) {
				next[part] = queue[0]
				queue = append(queue, part)
			}
		}
	}
	path := []int{from}
	for part := next[from]; part != to; part = next[part] {
		path = append(path, part)
	}
	return slices.Clip(path)
}
