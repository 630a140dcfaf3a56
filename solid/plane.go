package solid

import (
	"cmp"

	"spokeshave/api"
)

// CheckPlane tells what is wrong with a plane.
func CheckPlane(p api.Plane) api.Errno {
	switch {
	case !normal(p).within(api.MaxNormal), p.D < -api.MaxBound, p.D > api.MaxBound:
		return api.ErrRange
	case normal(p) == vector{}:
		return api.ErrZero
	}
	return api.OK
}

// Side returns -1, 0 or 1, as a point lies within, on or beyond a plane.
func Side(p api.Plane, c api.Corner) (int, api.Errno) {
	if e := CheckPlane(p); e != api.OK {
		return 0, e
	}
	if e := checkPoint(c); e != api.OK {
		return 0, e
	}
	return side(p, pointOf(c)), api.OK
}

func normal(p api.Plane) vector {
	return vector{p.A, p.B, p.C}
}

func planeOf(n vector, d int) api.Plane {
	return api.Plane{A: n[0], B: n[1], C: n[2], D: d}
}

func side(p api.Plane, q point) int {
	return cmp.Compare(normal(p).times(q.at), p.D*q.den)
}

func opposite(p api.Plane) api.Plane {
	return api.Plane{A: -p.A, B: -p.B, C: -p.C, D: -p.D}
}

// lowestPlane returns the lowest form of a plane.
func lowestPlane(p api.Plane) api.Plane {
	d := gcd(p.A, p.B, p.C, p.D)
	return api.Plane{A: p.A / d, B: p.B / d, C: p.C / d, D: p.D / d}
}

func comparePlanes(p, q api.Plane) int {
	return cmp.Or(cmp.Compare(p.A, q.A), cmp.Compare(p.B, q.B), cmp.Compare(p.C, q.C), cmp.Compare(p.D, q.D))
}

// meeting returns the point, not in lowest form, that lies on three planes, or false if their normals are not independent.
func meeting(p, q, r api.Plane) (point, bool) {
	qr := cross(normal(q), normal(r))
	den := normal(p).times(qr)
	if den == 0 {
		return point{}, false
	}
	rp := cross(normal(r), normal(p))
	pq := cross(normal(p), normal(q))
	sign := 1
	if den < 0 {
		sign = -1
	}
	var at vector
	for axis := range at {
		at[axis] = sign * (p.D*qr[axis] + q.D*rp[axis] + r.D*pq[axis])
	}
	return point{at, sign * den}, true
}

// allows reports whether a point is beyond none of some planes.
func allows(planes []api.Plane, q point) bool {
	for _, p := range planes {
		if side(p, q) > 0 {
			return false
		}
	}
	return true
}

// someWithin reports whether some point lies within a plane.
func someWithin(p api.Plane, points []point) bool {
	for _, q := range points {
		if side(p, q) < 0 {
			return true
		}
	}
	return false
}

// eachSomeWithin reports whether some point lies within each of some planes.
func eachSomeWithin(planes []api.Plane, points []point) bool {
	for _, p := range planes {
		if !someWithin(p, points) {
			return false
		}
	}
	return true
}

// bounded reports whether planes bound what is beyond none of them.
func bounded(planes []api.Plane) bool {
	found := false
	for i, j := range pairs(len(planes)) {
		edge := cross(normal(planes[i]), normal(planes[j]))
		if edge == (vector{}) {
			continue
		}
		if !stopped(edge, planes) {
			return false
		}
		found = true
	}
	// Without two independent normals nothing stops the ways along the planes.
	return found
}

// stopped reports whether a vector and its opposite both have a product above 0 with some normal.
func stopped(v vector, planes []api.Plane) bool {
	forward, backward := false, false
	for _, p := range planes {
		product := normal(p).times(v)
		forward = forward || product > 0
		backward = backward || product < 0
	}
	return forward && backward
}
