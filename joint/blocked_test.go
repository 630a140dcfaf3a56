package joint_test

import (
	"testing"

	"spokeshave/api"
	"spokeshave/solid"
)

// allWays returns all ways, ascending.
func allWays() []api.Way {
	var l []api.Way
	for x := -1; x <= 1; x++ {
		for y := -1; y <= 1; y++ {
			for z := -1; z <= 1; z++ {
				if x != 0 || y != 0 || z != 0 {
					l = append(l, api.Way{X: x, Y: y, Z: z})
				}
			}
		}
	}
	return l
}

// hull is the corners of a cell, scaled so that they are whole, and the directions of its faces and edges.
type hull struct {
	corners        [][3]int
	normals, edges map[[3]int]bool
}

// scale is a multiple of the denominators of all corners of joints: those of splines have halves.
const scale = 2

func hullOf(t *testing.T, c api.Cell) hull {
	t.Helper()
	h := hull{normals: map[[3]int]bool{}, edges: map[[3]int]bool{}}
	corners, e := solid.Corners(c)
	if e != api.OK {
		t.Fatalf("corners of %v: %d", c, e)
	}
	for _, q := range corners {
		if scale%q.Den != 0 {
			t.Fatalf("the corner %v of %v", q, c)
		}
		f := scale / q.Den
		h.corners = append(h.corners, [3]int{q.X * f, q.Y * f, q.Z * f})
	}
	for _, p := range c.Planes {
		n := [3]int{p.A, p.B, p.C}
		h.normals[n] = true
		for _, q := range c.Planes {
			h.edges[cross(n, [3]int{q.A, q.B, q.C})] = true
		}
	}
	return h
}

func cross(a, b [3]int) [3]int {
	return [3]int{a[1]*b[2] - a[2]*b[1], a[2]*b[0] - a[0]*b[2], a[0]*b[1] - a[1]*b[0]}
}

func dot(a, b [3]int) int {
	return a[0]*b[0] + a[1]*b[1] + a[2]*b[2]
}

// across returns the least and the greatest product of the corners with an axis.
func (h hull) across(axis [3]int) (low, high int) {
	low, high = dot(h.corners[0], axis), dot(h.corners[0], axis)
	for _, c := range h.corners {
		low, high = min(low, dot(c, axis)), max(high, dot(c, axis))
	}
	return low, high
}

// blocks reports whether b blocks a in a way. Two convex bodies have inside in common just if they overlap along each axis that is the normal of a face of one of them, or is across an edge of both; so, for each axis, the moved body overlaps between two times.
func blocks(a, b hull, w api.Way) bool {
	axes := map[[3]int]bool{}
	for _, l := range []map[[3]int]bool{a.normals, b.normals} {
		for n := range l {
			axes[n] = true
		}
	}
	for m := range a.edges {
		for n := range b.edges {
			axes[cross(m, n)] = true
		}
	}
	// The times so far are from first[0]/first[1] to last[0]/last[1]; a last time x/0 is none.
	first, last := [2]int{0, 1}, [2]int{1, 0}
	for axis := range axes {
		if axis == ([3]int{}) {
			continue
		}
		low, high := a.across(axis)
		from, to := b.across(axis)
		speed := dot(axis, [3]int{w.X, w.Y, w.Z})
		if speed < 0 {
			// The same along the opposite axis.
			low, high, from, to, speed = -high, -low, -to, -from, -speed
		}
		if speed == 0 {
			if high <= from || to <= low {
				return false
			}
			continue
		}
		if (from-high)*first[1] > first[0]*speed {
			first = [2]int{from - high, speed}
		}
		if (to-low)*last[1] < last[0]*speed {
			last = [2]int{to - low, speed}
		}
	}
	return first[0]*last[1] < last[0]*first[1]
}

// unblocked returns the ways in which one of some solids is not blocked by the others.
func unblocked(t *testing.T, all []api.Solid, member int) []api.Way {
	t.Helper()
	var moved, others []hull
	for i, s := range all {
		for _, c := range s.Cells {
			if i == member {
				moved = append(moved, hullOf(t, c))
			} else {
				others = append(others, hullOf(t, c))
			}
		}
	}
	var free []api.Way
	for _, w := range allWays() {
		if !anyBlocks(moved, others, w) {
			free = append(free, w)
		}
	}
	return free
}

func anyBlocks(moved, others []hull, w api.Way) bool {
	for _, a := range moved {
		for _, b := range others {
			if blocks(a, b, w) {
				return true
			}
		}
	}
	return false
}

// The tests of blocking itself: the fourth example of the document, and boxes that pass each other.
func TestUnblocked(t *testing.T) {
	left, right := box(t, 0, 0, 0, 1, 1, 1), box(t, 1, 0, 0, 2, 1, 1)
	for _, w := range unblocked(t, []api.Solid{left, right}, 0) {
		if w.X == 1 {
			t.Errorf("the left box is free in %v", w)
		}
	}
	if n := len(unblocked(t, []api.Solid{left, right}, 0)); n != 17 {
		t.Errorf("the left box is free in %d ways", n)
	}
	far := box(t, 5, 5, 0, 6, 6, 1)
	for _, w := range allWays() {
		blocked := anyBlocks([]hull{hullOf(t, left.Cells[0])}, []hull{hullOf(t, far.Cells[0])}, w)
		if blocked != (w == api.Way{X: 1, Y: 1}) {
			t.Errorf("%v: %t", w, blocked)
		}
	}
	past := box(t, 5, 7, 0, 6, 8, 1)
	if anyBlocks([]hull{hullOf(t, left.Cells[0])}, []hull{hullOf(t, past.Cells[0])}, api.Way{X: 1, Y: 1}) {
		t.Error("a box is blocked by one that it touches as it passes")
	}
}
