package solid

import (
	"slices"

	"spokeshave/api"
)

// maxWitness bounds the points of a witness.
const maxWitness = 1000

// Clashes returns the first pair of overlapping cells with the corners of what they have in common, and whether there is one.
func Clashes(a, b api.Solid) (api.Overlap, bool, api.Errno) {
	as, bs, e := bodiesOfBoth(a, b)
	if e != api.OK {
		return api.Overlap{}, false, e
	}
	for i, c := range as {
		for j, d := range bs {
			if both, ok := common(c, d); ok {
				return api.Overlap{A: i, B: j, Corners: cornersOf(both.corners)}, true, api.OK
			}
		}
	}
	return api.Overlap{}, false, api.OK
}

// CheckOverlap accepts a witness that two cells overlap: the middle of its points is inside of both.
func CheckOverlap(a, b api.Solid, o api.Overlap) api.Errno {
	as, bs, e := bodiesOfBoth(a, b)
	if e != api.OK {
		return e
	}
	if o.A < 0 || o.A >= len(as) || o.B < 0 || o.B >= len(bs) {
		return api.ErrMissing
	}
	if len(o.Corners) > maxWitness {
		return api.ErrLarge
	}
	points := make([]point, 0, len(o.Corners))
	for _, c := range o.Corners {
		if e := checkPoint(c); e != api.OK {
			return e
		}
		points = append(points, pointOf(c))
	}
	planes := slices.Concat(a.Cells[o.A].Planes, b.Cells[o.B].Planes)
	for _, p := range points {
		if !allows(planes, p) {
			return api.ErrProof
		}
	}
	if !eachSomeWithin(planes, points) {
		return api.ErrProof
	}
	return api.OK
}

// Touches returns the contacts of two solids: where a face of a cell of a has a face of a cell of b against it.
func Touches(a, b api.Solid) ([]api.Contact, api.Errno) {
	as, bs, e := bodiesOfBoth(a, b)
	if e != api.OK {
		return nil, e
	}
	var contacts []api.Contact
	for i, c := range as {
		for j, d := range bs {
			if p, points := face(c, d); len(points) >= 3 {
				contacts = append(contacts, api.Contact{A: i, B: j, Plane: p, Corners: cornersOf(points)})
			}
		}
	}
	return contacts, api.OK
}

// face returns the plane on which two bodies touch, and the corners of what they have in common there; there are less than three corners if they touch on no plane.
func face(a, b body) (api.Plane, []point) {
	planes := slices.Concat(a.planes, b.planes)
	for _, p := range a.planes {
		// Three common corners of bodies without common inside span a needed plane of both, and the bodies lie on its two sides.
		if !slices.Contains(b.planes, opposite(p)) {
			continue
		}
		if points := cornersOn(p, planes); len(points) >= 3 {
			return p, points
		}
	}
	return api.Plane{}, nil
}

// cornersOn returns the points on a plane and on two of some planes that are beyond none of these.
func cornersOn(p api.Plane, planes []api.Plane) []point {
	var points []point
	for i, j := range pairs(len(planes)) {
		q, ok := meeting(p, planes[i], planes[j])
		if ok && allows(planes, q) {
			points = addPoint(points, q)
		}
	}
	return points
}
