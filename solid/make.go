package solid

import (
	"slices"

	"spokeshave/api"
)

// maxSides bounds the corners of a prism's polygon: with the two ends these are the planes of a cell.
const maxSides = api.MaxPlanes - 2

// OfBox returns the solid of a box.
func OfBox(b api.Box) (api.Solid, api.Errno) {
	low, high := vector{b.X1, b.Y1, b.Z1}, vector{b.X2, b.Y2, b.Z2}
	if !low.within(api.MaxPlace) || !high.within(api.MaxPlace) {
		return api.Solid{}, api.ErrRange
	}
	var planes []api.Plane
	for axis := range low {
		if low[axis] >= high[axis] {
			return api.Solid{}, api.ErrForm
		}
		planes = append(planes, endPlanes(axis, low[axis], high[axis])...)
	}
	return solidOfPlanes(planes), api.OK
}

// Prism returns the solid of what has its coordinate on an axis between two ends, and the two other ones in a polygon.
func Prism(axis int, l []api.Point, ends [2]int) (api.Solid, api.Errno) {
	if e := checkPrism(axis, l, ends); e != api.OK {
		return api.Solid{}, e
	}
	planes := endPlanes(axis, ends[0], ends[1])
	for i, from := range l {
		n := outward(from, l[(i+1)%len(l)])
		if max(n[0], -n[0], n[1], -n[1]) > api.MaxNormal {
			return api.Solid{}, api.ErrRange
		}
		var at vector
		at[(axis+1)%3], at[(axis+2)%3] = n[0], n[1]
		planes = append(planes, planeOf(at, n[0]*from.X+n[1]*from.Y))
	}
	return solidOfPlanes(planes), api.OK
}

// checkPrism tells what is wrong with a prism, except for the directions of its sides.
func checkPrism(axis int, l []api.Point, ends [2]int) api.Errno {
	if axis < 0 || axis > 2 {
		return api.ErrRange
	}
	if len(l) < 3 || len(l) > maxSides {
		return api.ErrShape
	}
	for _, p := range l {
		if !(vector{p.X, p.Y}).within(api.MaxPlace) {
			return api.ErrRange
		}
	}
	if !(vector{ends[0], ends[1]}).within(api.MaxPlace) {
		return api.ErrRange
	}
	if ends[0] >= ends[1] {
		return api.ErrForm
	}
	for i := range l {
		if !restIsLeft(l, i) {
			return api.ErrForm
		}
	}
	return api.OK
}

// restIsLeft reports whether all other corners lie to the left of the side that begins at a corner.
func restIsLeft(l []api.Point, begin int) bool {
	end := (begin + 1) % len(l)
	from, to := l[begin], l[end]
	for i, p := range l {
		if i == begin || i == end {
			continue
		}
		if (to.X-from.X)*(p.Y-from.Y)-(to.Y-from.Y)*(p.X-from.X) <= 0 {
			return false
		}
	}
	return true
}

// outward returns the lowest normal of a side that points to its right, which is out of the polygon.
func outward(from, to api.Point) [2]int {
	x, y := to.X-from.X, to.Y-from.Y
	d := gcd(x, y)
	return [2]int{y / d, -x / d}
}

// endPlanes returns the planes that keep a coordinate between two ends.
func endPlanes(axis, low, high int) []api.Plane {
	var unit vector
	unit[axis] = 1
	up := planeOf(unit, high)
	unit[axis] = -1
	return []api.Plane{planeOf(unit, -low), up}
}

// solidOfPlanes returns the solid of one cell, given its needed planes in lowest form.
func solidOfPlanes(planes []api.Plane) api.Solid {
	slices.SortFunc(planes, comparePlanes)
	return api.Solid{Cells: []api.Cell{{Planes: planes}}}
}
