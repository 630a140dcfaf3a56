// Package solid is chapter 1: exact solids. See shared/doc/01-solid.md.
package solid

import "spokeshave/api"

// CheckCell tells what is wrong with a cell.
func CheckCell(c api.Cell) api.Errno {
	_, e := bodyOf(c)
	return e
}

// Check tells what is wrong with a solid.
func Check(s api.Solid) api.Errno {
	_, e := bodiesOf(s)
	return e
}

// Normal returns the normal form of a cell.
func Normal(c api.Cell) (api.Cell, api.Errno) {
	b, e := bodyOf(c)
	if e != api.OK {
		return api.Cell{}, e
	}
	return b.cell(), api.OK
}

// Corners returns the corners of a cell, ascending.
func Corners(c api.Cell) ([]api.Corner, api.Errno) {
	b, e := bodyOf(c)
	if e != api.OK {
		return nil, e
	}
	return cornersOf(b.corners), api.OK
}

// Where returns 1 if a point is inside of a cell of a solid, 0 if it is in a cell, but inside of none, and -1 otherwise.
func Where(s api.Solid, c api.Corner) (int, api.Errno) {
	bodies, e := bodiesOf(s)
	if e != api.OK {
		return 0, e
	}
	if e := checkPoint(c); e != api.OK {
		return 0, e
	}
	best := -1
	for _, b := range bodies {
		best = max(best, b.where(pointOf(c)))
	}
	return best, api.OK
}

// where returns 1, 0 or -1, as a point is inside of a body, only in it, or outside.
func (b body) where(q point) int {
	farthest := -1
	for _, p := range b.planes {
		farthest = max(farthest, side(p, q))
	}
	return -farthest
}

// Bounds returns the least box with whole numbers that contains a solid.
func Bounds(s api.Solid) (api.Box, api.Errno) {
	bodies, e := bodiesOf(s)
	if e != api.OK {
		return api.Box{}, e
	}
	if len(bodies) == 0 {
		return api.Box{}, api.ErrNone
	}
	around := bodies[0].extent()
	for _, b := range bodies[1:] {
		x := b.extent()
		for axis := range around.low {
			around.low[axis] = min(around.low[axis], x.low[axis])
			around.high[axis] = max(around.high[axis], x.high[axis])
		}
	}
	low, high := around.low, around.high
	return api.Box{X1: low[0], Y1: low[1], Z1: low[2], X2: high[0], Y2: high[1], Z2: high[2]}, api.OK
}
