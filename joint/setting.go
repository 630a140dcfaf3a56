package joint

import (
	"spokeshave/api"
	"spokeshave/solid"
)

const (
	countTurns = 48
	maxMove    = 2 * api.MaxPlace
)

// Put returns a solid, turned and then moved.
func Put(s api.Solid, at api.Setting) (api.Solid, api.Errno) {
	turned, e := solid.Turn(s, at.Turn)
	if e != api.OK {
		return api.Solid{}, e
	}
	return solid.Move(turned, at.At)
}

// Placed returns what a member keeps of the box of a joint, put.
func Placed(j api.Joint, member int, at api.Setting) (api.Solid, api.Errno) {
	s, e := Keeps(j, member)
	if e != api.OK {
		return api.Solid{}, e
	}
	return Put(s, at)
}

// Boxed returns the box of a joint, put.
func Boxed(j api.Joint, at api.Setting) (api.Box, api.Errno) {
	if e := Check(j); e != api.OK {
		return api.Box{}, e
	}
	if !isTurn(at.Turn) || !within(-maxMove, maxMove, at.At[0], at.At[1], at.At[2]) {
		return api.Box{}, api.ErrRange
	}
	far, e := solid.Turned(j.Size, at.Turn)
	if e != api.OK {
		return api.Box{}, e
	}
	low, high := at.At, at.At
	for axis, n := range far {
		low[axis] += min(n, 0)
		high[axis] += max(n, 0)
		if !within(-api.MaxPlace, api.MaxPlace, low[axis], high[axis]) {
			return api.Box{}, api.ErrRange
		}
	}
	return api.Box{X1: low[0], Y1: low[1], Z1: low[2], X2: high[0], Y2: high[1], Z2: high[2]}, api.OK
}

func isTurn(turn int) bool {
	return turn >= 0 && turn < countTurns
}
