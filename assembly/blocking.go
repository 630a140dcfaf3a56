package assembly

import "spokeshave/api"

// Blocked reports whether a solid is blocked by another one in a way.
func Blocked(p, q api.Solid, w api.Way) (bool, api.Errno) {
	moved, e := bodiesOf(p)
	if e != api.OK {
		return false, e
	}
	still, e := bodiesOf(q)
	if e != api.OK {
		return false, e
	}
	if e := checkWay(w); e != api.OK {
		return false, e
	}
	return reach(sweptBy(moved, w), still), api.OK
}

// sweep is planes: the points within all of them are those that the inside of a cell passes as it moves in a way without end.
type sweep []api.Plane

// sweptBy returns the sweeps of some bodies in a way.
func sweptBy(moved []body, w api.Way) []sweep {
	swept := make([]sweep, 0, len(moved))
	for _, b := range moved {
		swept = append(swept, sweepOf(b.planes, w))
	}
	return swept
}

// sweepOf returns the sweep of a cell with some planes. A point is passed if for some time it is within all planes, which move; planes that move ahead give it a time after which it is, planes that move back one until which it is.
func sweepOf(planes []api.Plane, w api.Way) sweep {
	var s sweep
	for _, p := range planes {
		ahead := speed(p, w)
		if ahead <= 0 {
			s = append(s, p)
			continue
		}
		for _, q := range planes {
			back := speed(q, w)
			if back >= 0 {
				continue
			}
			// The sum of planes against each other has no normal, and all points within it.
			s = append(s, sum(p, -back, q, ahead))
		}
	}
	return s
}

// speed tells how fast a plane that moves in a way goes on along its normal.
func speed(p api.Plane, w api.Way) int {
	return p.A*w.X + p.B*w.Y + p.C*w.Z
}

// sum returns m times p plus n times q.
func sum(p api.Plane, m int, q api.Plane, n int) api.Plane {
	return api.Plane{A: m*p.A + n*q.A, B: m*p.B + n*q.B, C: m*p.C + n*q.C, D: m*p.D + n*q.D}
}

// reach reports whether some sweep and some body have a point inside of both.
func reach(swept []sweep, still []body) bool {
	for _, s := range swept {
		for _, b := range still {
			if s.reaches(b) {
				return true
			}
		}
	}
	return false
}

// reaches reports whether a sweep and a body have a point inside of both.
func (s sweep) reaches(b body) bool {
	// Most bodies that are not reached have nothing within one of the planes, and this is quickly seen.
	for _, p := range s {
		if !b.reaches(p) {
			return false
		}
	}
	for _, p := range s {
		rest, ok := b.cut(p)
		if !ok {
			return false
		}
		b = rest
	}
	return true
}
