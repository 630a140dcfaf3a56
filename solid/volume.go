package solid

import (
	"cmp"
	"slices"

	"spokeshave/api"
)

// lastAxis is the number of Z.
const lastAxis = len(vector{}) - 1

// Volume returns the volume of the union of the cells of a solid of boxes.
func Volume(s api.Solid) (int, api.Errno) {
	bodies, e := bodiesOf(s)
	if e != api.OK {
		return 0, e
	}
	var boxes []extent
	for _, b := range bodies {
		if !b.isBox() {
			return 0, api.ErrKind
		}
		boxes = append(boxes, b.extent())
	}
	return measure(boxes, 0), api.OK
}

// isBox reports whether all normals of a body are along the axes, with the length 1; then its corners are whole.
func (b body) isBox() bool {
	for _, p := range b.planes {
		if normal(p).times(normal(p)) != 1 {
			return false
		}
	}
	return true
}

// measure returns the size of the union of boxes, from an axis on: they are cut into slices at all their ends on this axis, and each slice is measured on the axes behind it.
func measure(boxes []extent, axis int) int {
	if axis == lastAxis {
		return length(boxes)
	}
	var ends []int
	for _, b := range boxes {
		ends = append(ends, b.low[axis], b.high[axis])
	}
	slices.Sort(ends)
	ends = slices.Compact(ends)
	sum := 0
	for i := 1; i < len(ends); i++ {
		from, to := ends[i-1], ends[i]
		sum += (to - from) * measure(boxesAt(boxes, axis, from), axis+1)
	}
	return sum
}

// boxesAt returns the boxes that go on from a place on an axis.
func boxesAt(boxes []extent, axis, place int) []extent {
	var there []extent
	for _, b := range boxes {
		if b.low[axis] <= place && place < b.high[axis] {
			there = append(there, b)
		}
	}
	return there
}

// length returns the length of the union of what boxes take of the last axis.
func length(boxes []extent) int {
	sorted := slices.SortedFunc(slices.Values(boxes), func(a, b extent) int {
		return cmp.Compare(a.low[lastAxis], b.low[lastAxis])
	})
	sum, end := 0, -api.MaxPlace
	for _, b := range sorted {
		if to := b.high[lastAxis]; to > end {
			sum += to - max(end, b.low[lastAxis])
			end = to
		}
	}
	return sum
}
