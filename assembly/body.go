package assembly

import (
	"slices"

	"spokeshave/api"
	"spokeshave/solid"
)

// body is a convex body with inside: planes that bound it, and points of which it is the hull. A body is never changed, so that bodies may share their lists.
type body struct {
	planes []api.Plane
	points []api.Corner
}

// bodiesOf returns the bodies of the cells of a solid, or what is wrong with the solid.
func bodiesOf(s api.Solid) ([]body, api.Errno) {
	if e := solid.Check(s); e != api.OK {
		return nil, e
	}
	var bodies []body
	for _, c := range s.Cells {
		form, e := solid.Normal(c)
		if e != api.OK {
			return nil, e
		}
		corners, e := solid.Corners(c)
		if e != api.OK {
			return nil, e
		}
		bodies = append(bodies, body{form.Planes, corners})
	}
	return bodies, api.OK
}

// cut returns what of a body is not beyond a plane, or false if that has no inside.
func (b body) cut(p api.Plane) (body, bool) {
	var points []api.Corner
	within := false
	for _, c := range b.points {
		where := side(p, c)
		within = within || where < 0
		if where <= 0 {
			points = append(points, c)
		}
	}
	if !within || len(points) == len(b.points) {
		return b, within
	}
	// The corners that are new lie on the plane that is new.
	for i, q := range b.planes {
		for _, r := range b.planes[:i] {
			if c, ok := meeting(p, q, r); ok && b.contains(c) {
				points = append(points, c)
			}
		}
	}
	return body{append(slices.Clone(b.planes), p), points}, true
}

// contains reports whether a point is beyond none of the planes of a body.
func (b body) contains(c api.Corner) bool {
	for _, p := range b.planes {
		if side(p, c) > 0 {
			return false
		}
	}
	return true
}

// reaches reports whether a body has a point within a plane.
func (b body) reaches(p api.Plane) bool {
	for _, c := range b.points {
		if side(p, c) < 0 {
			return true
		}
	}
	return false
}

// side is below 0, 0 or above 0, as a point lies within, on or beyond a plane.
func side(p api.Plane, c api.Corner) int {
	return p.A*c.X + p.B*c.Y + p.C*c.Z - p.D*c.Den
}

// meeting returns the point, not in lowest form, that lies on three planes, or false if their normals are not independent.
func meeting(p, q, r api.Plane) (api.Corner, bool) {
	qr, rp, pq := cross(q, r), cross(r, p), cross(p, q)
	den := p.A*qr[0] + p.B*qr[1] + p.C*qr[2]
	if den == 0 {
		return api.Corner{}, false
	}
	sign := 1
	if den < 0 {
		sign = -1
	}
	var at [3]int
	for axis := range at {
		at[axis] = sign * (p.D*qr[axis] + q.D*rp[axis] + r.D*pq[axis])
	}
	return api.Corner{X: at[0], Y: at[1], Z: at[2], Den: sign * den}, true
}

// cross returns the cross product of the normals of two planes.
func cross(p, q api.Plane) [3]int {
	return [3]int{p.B*q.C - p.C*q.B, p.C*q.A - p.A*q.C, p.A*q.B - p.B*q.A}
}
