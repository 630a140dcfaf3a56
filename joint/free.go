package joint

import (
	"cmp"
	"slices"

	"spokeshave/api"
	"spokeshave/solid"
)

// Free returns the ways in which a member of a joint is not blocked.
func Free(j api.Joint, member int) ([]api.Way, api.Errno) {
	if e := checkMember(j, member); e != api.OK {
		return nil, e
	}
	var free []api.Way
	for _, w := range ways() {
		if isFree(j, member, w) {
			free = append(free, w)
		}
	}
	return free, api.OK
}

// FreeAt returns the ways in which a member of a joint is free where the joint is put.
func FreeAt(j api.Joint, member int, at api.Setting) ([]api.Way, api.Errno) {
	free, e := Free(j, member)
	if e != api.OK {
		return nil, e
	}
	if !isTurn(at.Turn) {
		return nil, api.ErrRange
	}
	for i, w := range free {
		turned, e := Turned(w, at.Turn)
		if e != api.OK {
			return nil, e
		}
		free[i] = turned
	}
	slices.SortFunc(free, compareWays)
	return free, api.OK
}

// Turned returns a turned way.
func Turned(w api.Way, turn int) (api.Way, api.Errno) {
	if !within(-1, 1, w.X, w.Y, w.Z) || !isTurn(turn) {
		return api.Way{}, api.ErrRange
	}
	if w == (api.Way{}) {
		return api.Way{}, api.ErrZero
	}
	v, e := solid.Turned([3]int{w.X, w.Y, w.Z}, turn)
	return api.Way{X: v[0], Y: v[1], Z: v[2]}, e
}

// isFree reports whether a member of a right joint is free in a way. Loose ones never are.
func isFree(j api.Joint, member int, w api.Way) bool {
	switch {
	case member == memberA:
		return isFreeA(j, w)
	case member == memberB:
		// B moves against A as A does against B in the opposite way.
		return isFreeA(j, api.Way{X: -w.X, Y: -w.Y, Z: -w.Z})
	case j.Kind == three:
		return w.X == 0 && w.Y == 0
	}
	return false
}

// isFreeA reports whether A is free in a way.
func isFreeA(j api.Joint, w api.Way) bool {
	n := j.Numbers
	switch j.Kind {
	case lap:
		return w.Z >= 0
	case bridle:
		return w.Z == 0
	case tenon:
		return w.Y == 0 && w.Z == 0
	case stopped, dowels:
		return w == api.Way{X: 1}
	case tongue:
		// Into a gap that is as deep as the box is wide, the tongue leaves its groove sideways before it meets the bottom.
		return w.Z == 0 && (w.X >= 0 || w.Y != 0 && n[1] >= j.Size[1])
	case dovetail:
		// Tails with s = 1 may slide along one of their faces.
		return w.X == -1 && (w.Y == 0 || n[0] == 1) || w.X == 0 && w.Y == 0
	case scarf:
		return n[1]*w.X-n[2]*w.Z >= 0
	case fingers:
		return w.Y == 0 || w.Y == -1 && len(n) == 1
	case spline:
		return w == api.Way{X: 1, Y: -1}
	default: // three
		return w == api.Way{Z: 1}
	}
}

// ways returns all ways, ascending.
func ways() []api.Way {
	var all []api.Way
	for i := range 27 {
		if w := (api.Way{X: i/9 - 1, Y: i/3%3 - 1, Z: i%3 - 1}); w != (api.Way{}) {
			all = append(all, w)
		}
	}
	return all
}

func compareWays(v, w api.Way) int {
	return cmp.Or(cmp.Compare(v.X, w.X), cmp.Compare(v.Y, w.Y), cmp.Compare(v.Z, w.Z))
}
