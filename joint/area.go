package joint

import "spokeshave/api"

// Area returns the areas of contact of different members of a joint, projected along the axes.
func Area(j api.Joint) ([3]int, api.Errno) {
	if e := Check(j); e != api.OK {
		return [3]int{}, e
	}
	return area(j), api.OK
}

// area returns the areas of contact of a right joint.
func area(j api.Joint) [3]int {
	l, w, t := j.Size[0], j.Size[1], j.Size[2]
	n := j.Numbers
	switch j.Kind {
	case lap:
		return [3]int{0, 0, l * w}
	case bridle:
		return [3]int{0, 0, 2 * l * w}
	case tenon, stopped, tongue:
		return holeOf(j).area(w)
	case dovetail:
		d := tailsOf(j)
		count := len(d.at)
		return [3]int{2 * count * d.k * t, 2 * count * l * t, 0}
	case scarf:
		return [3]int{t * w, 0, scarfLength(j) * w}
	case fingers:
		return [3]int{0, len(n) * l * t, 0}
	case dowels:
		return rodsOf(j).area(w, t)
	case spline:
		return slotOf(j).area(l, t)
	default: // three
		x, y := n[2]-n[1], n[4]-n[3]
		return [3]int{2 * y * t, 2 * x * t, l*w - x*y}
	}
}

// area counts the end of a tenon or tongue that is stopped without a gap, and its sides.
func (h hole) area(width int) [3]int {
	z := h.across[len(h.across)-1].length()
	var areas [3]int
	y := width
	if len(h.across) > 1 {
		y = h.across[0].length()
		areas[axisY] = 2 * h.depth * z
	}
	if h.gap == 0 && h.depth < h.length {
		areas[axisX] = y * z
	}
	areas[axisZ] = 2 * h.depth * y
	return areas
}

// area counts the face around the dowels, and their sides, and without a gap their ends.
func (d rods) area(width, height int) [3]int {
	count, corner := len(d.at), 2*d.r-d.e
	end := 4*d.r*d.r - 2*corner*corner
	areas := [3]int{width*height - count*end, 4 * count * d.r * (d.a + d.b), 4 * count * d.r * (d.a + d.b)}
	if d.gap == 0 {
		areas[axisX] += 2 * count * end
	}
	return areas
}

// area counts the face around the spline, and its sides.
func (s slot) area(length, height int) [3]int {
	z := s.height.length()
	across := length*height + s.h*z + 2*s.d*z
	return [3]int{across, across, 4 * s.h * s.d}
}

// scarfLength returns the length along X of the slanted face of a scarf.
func scarfLength(j api.Joint) int {
	x1, x2 := scarfEnds(j)
	return max(x1-x2, x2-x1)
}
