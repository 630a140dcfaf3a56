package assembly

import (
	"slices"

	"spokeshave/api"
)

// First returns the first split of a group, and whether there is one.
func First(l []api.Solid, group []int) (api.Split, bool, api.Errno) {
	p, e := partsOf(l)
	if e != api.OK {
		return api.Split{}, false, e
	}
	whole, e := readSet(group, p.count())
	if e != api.OK {
		return api.Split{}, false, e
	}
	s, ok := p.first(whole)
	if !ok {
		return api.Split{}, false, api.OK
	}
	return s.list(), true, api.OK
}

// split takes a set out of a group.
type split struct {
	group, out set
	way        api.Way
}

func (s split) list() api.Split {
	return api.Split{Group: s.group.list(), Out: s.out.list(), Way: s.way}
}

// first returns the first split of a group, or false if there is none.
func (p parts) first(group set) (split, bool) {
	return p.firstOf(group, func(set) bool { return true })
}

// firstOf returns the first split of a group that takes out what a part carries, if that is suitable, or false if there is none.
func (p parts) firstOf(group set, suits func(out set) bool) (split, bool) {
	for w := range ways() {
		g := p.graph(w)
		for part := range group.each() {
			if out := g.carried(part, group); out != group && suits(out) {
				return split{group, out, w}, true
			}
		}
	}
	return split{}, false
}

// Plan returns a plan of parts; or, with ErrLocked, a locked cluster.
func Plan(l []api.Solid) ([]api.Split, api.Locked, api.Errno) {
	p, e := partsOf(l)
	if e != api.OK {
		return nil, api.Locked{}, e
	}
	var plan []api.Split
	groups := []set{p.all()}
	for len(groups) > 0 {
		last := len(groups) - 1
		group := groups[last]
		groups = groups[:last]
		if group.size() < 2 {
			continue
		}
		s, ok := p.first(group)
		if !ok {
			return nil, p.locked(group), api.ErrLocked
		}
		plan = append(plan, s.list())
		groups = append(groups, group&^s.out, s.out)
	}
	return plan, api.Locked{}, api.OK
}

// CheckPlan accepts a plan of parts.
func CheckPlan(l []api.Solid, plan []api.Split) api.Errno {
	p, e := partsOf(l)
	if e != api.OK {
		return e
	}
	if len(plan) != max(p.count()-1, 0) {
		return api.ErrShape
	}
	groups := map[set]bool{p.all(): true}
	for _, s := range plan {
		if e := p.take(groups, s); e != api.OK {
			return e
		}
	}
	return api.OK
}

// take takes a group of groups apart, or tells why it cannot be done.
func (p parts) take(groups map[set]bool, s api.Split) api.Errno {
	group, e := readSet(s.Group, p.count())
	if e != api.OK {
		return e
	}
	out, e := readSet(s.Out, p.count())
	if e != api.OK {
		return e
	}
	if e := checkWay(s.Way); e != api.OK {
		return e
	}
	switch {
	case !groups[group]:
		return api.ErrState
	case out == 0, out == group, !out.within(group):
		return api.ErrForm
	case !p.graph(s.Way).moves(out, group):
		return api.ErrBlocked
	}
	delete(groups, group)
	groups[out], groups[group&^out] = true, true
	return api.OK
}

// Manual returns the splits of a plan as an order of assembly.
func Manual(l []api.Solid, p []api.Split) ([]api.Split, api.Errno) {
	if e := CheckPlan(l, p); e != api.OK {
		return nil, e
	}
	var manual []api.Split
	for _, s := range slices.Backward(p) {
		manual = append(manual, api.Split{Group: slices.Clone(s.Group), Out: slices.Clone(s.Out), Way: opposite(s.Way)})
	}
	return manual, api.OK
}
