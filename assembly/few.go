package assembly

import "spokeshave/api"

// Single returns a plan that takes out a single part each time.
func Single(l []api.Solid) ([]api.Split, api.Errno) {
	p, e := partsOf(l)
	if e != api.OK {
		return nil, e
	}
	var plan []api.Split
	// No choice is wrong: what is left when a part has been taken out is not blocked more than before.
	for group := p.all(); group.size() > 1; {
		s, ok := p.firstOf(group, func(out set) bool { return out.size() == 1 })
		if !ok {
			return nil, api.ErrNone
		}
		plan = append(plan, s.list())
		group &^= s.out
	}
	return plan, api.OK
}

// Depth returns the least number of splits until a part is alone.
func Depth(l []api.Solid, part int) (int, api.Errno) {
	p, e := partsOf(l)
	if e != api.OK {
		return 0, e
	}
	if !p.all().has(part) {
		return 0, api.ErrMissing
	}
	if p.count() > api.MaxFew {
		return 0, api.ErrLarge
	}
	seen := map[set]bool{}
	depth := 0
	for groups := []set{p.all()}; len(groups) > 0; depth++ {
		var smaller []set
		for _, group := range groups {
			if group == setOf(part) {
				return depth, api.OK
			}
			for _, left := range p.leftWith(part, group) {
				if !seen[left] {
					seen[left] = true
					smaller = append(smaller, left)
				}
			}
		}
		groups = smaller
	}
	return 0, api.ErrLocked
}

// leftWith returns the groups with a part that splits of a group leave. That such a group is what moves out is enough: if the others move out, it does in the opposite way.
func (p parts) leftWith(part int, group set) []set {
	var left []set
	for out := range group {
		if out.has(part) && out.within(group) && p.comesOut(out, group) {
			left = append(left, out)
		}
	}
	return left
}

// comesOut reports whether a set moves out of a group in some way.
func (p parts) comesOut(out, group set) bool {
	for w := range ways() {
		if p.graph(w).moves(out, group) {
			return true
		}
	}
	return false
}
