package solid

import (
	"slices"

	"spokeshave/api"
)

// body is a bounded cell with inside: its planes in normal form, and its corners. A body is never changed, so that bodies may share their lists.
type body struct {
	planes  []api.Plane
	corners []point
}

// bodyOf returns the body of a cell, or what is wrong with the cell.
func bodyOf(c api.Cell) (body, api.Errno) {
	if len(c.Planes) > api.MaxPlanes {
		return body{}, api.ErrLarge
	}
	for _, p := range c.Planes {
		if e := CheckPlane(p); e != api.OK {
			return body{}, e
		}
	}
	if !bounded(c.Planes) {
		return body{}, api.ErrOpen
	}
	corners := cornersWithin(c.Planes)
	if !eachSomeWithin(c.Planes, corners) {
		return body{}, api.ErrEmpty
	}
	for _, p := range corners {
		if !p.inRoom() {
			return body{}, api.ErrRange
		}
	}
	return body{neededPlanes(c.Planes, corners), corners}, api.OK
}

// bodiesOf returns the bodies of the cells of a solid, or what is wrong with the solid.
func bodiesOf(s api.Solid) ([]body, api.Errno) {
	if len(s.Cells) > api.MaxCells {
		return nil, api.ErrLarge
	}
	bodies := make([]body, 0, len(s.Cells))
	for _, c := range s.Cells {
		b, e := bodyOf(c)
		if e != api.OK {
			return nil, e
		}
		bodies = append(bodies, b)
	}
	return bodies, api.OK
}

// bodiesOfBoth returns the bodies of two solids, or the error of the first one that is wrong.
func bodiesOfBoth(a, b api.Solid) (as, bs []body, e api.Errno) {
	if as, e = bodiesOf(a); e != api.OK {
		return nil, nil, e
	}
	if bs, e = bodiesOf(b); e != api.OK {
		return nil, nil, e
	}
	return as, bs, api.OK
}

// solidOf returns the solid of some bodies; it shares nothing with them.
func solidOf(bodies []body) api.Solid {
	var s api.Solid
	for _, b := range bodies {
		s.Cells = append(s.Cells, b.cell())
	}
	return s
}

// cell returns the cell of a body, in normal form.
func (b body) cell() api.Cell {
	return api.Cell{Planes: slices.Clone(b.planes)}
}

// cornersWithin returns the points on three planes with independent normals that are beyond none of all planes.
func cornersWithin(planes []api.Plane) []point {
	var corners []point
	for t := range triples(len(planes)) {
		p, ok := meeting(planes[t[0]], planes[t[1]], planes[t[2]])
		if ok && allows(planes, p) {
			corners = addPoint(corners, p)
		}
	}
	return corners
}

// neededPlanes returns the lowest forms of those planes on which at least three corners lie, each once, ascending.
func neededPlanes(planes []api.Plane, corners []point) []api.Plane {
	var needed []api.Plane
	for _, p := range planes {
		on := 0
		for _, q := range corners {
			if side(p, q) == 0 {
				on++
			}
		}
		if on >= 3 {
			needed = append(needed, lowestPlane(p))
		}
	}
	slices.SortFunc(needed, comparePlanes)
	return slices.Compact(needed)
}

// cut returns what of a body is not beyond a plane, or false if that has no inside.
func (b body) cut(p api.Plane) (body, bool) {
	if !someWithin(p, b.corners) {
		return body{}, false
	}
	var corners []point
	for _, q := range b.corners {
		if side(p, q) <= 0 {
			corners = append(corners, q)
		}
	}
	if len(corners) == len(b.corners) {
		return b, true
	}
	// The corners that are new lie on the plane that is new.
	for i, j := range pairs(len(b.planes)) {
		q, ok := meeting(b.planes[i], b.planes[j], p)
		if ok && allows(b.planes, q) {
			corners = addPoint(corners, q)
		}
	}
	planes := append(slices.Clone(b.planes), p)
	return body{neededPlanes(planes, corners), corners}, true
}

// common returns what two bodies have in common, or false if that has no inside.
func common(a, b body) (body, bool) {
	if apart(a, b) {
		return body{}, false
	}
	for _, p := range b.planes {
		rest, ok := a.cut(p)
		if !ok {
			return body{}, false
		}
		a = rest
	}
	return a, true
}

// apart reports whether a plane of one of two bodies has nothing of the other one within it. Bodies without inside in common may be not apart in this way; but most are, and this is quickly seen.
func apart(a, b body) bool {
	return !eachSomeWithin(a.planes, b.corners) || !eachSomeWithin(b.planes, a.corners)
}

// extent is the least and the greatest coordinates of a box.
type extent struct {
	low, high vector
}

// extent returns the least box with whole numbers around a body.
func (b body) extent() extent {
	var x extent
	for axis := range x.low {
		for i, p := range b.corners {
			from, to := floor(p.at[axis], p.den), ceiling(p.at[axis], p.den)
			if i == 0 || from < x.low[axis] {
				x.low[axis] = from
			}
			if i == 0 || to > x.high[axis] {
				x.high[axis] = to
			}
		}
	}
	return x
}
