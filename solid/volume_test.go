package solid_test

import (
	"slices"
	"testing"

	"spokeshave/api"
	"spokeshave/solid"
)

// P1.7: volumes of unions of boxes.
func TestVolume(t *testing.T) {
	slanted := one(with(cellBox(9), api.Plane{A: 1, B: 1, D: 3}))
	half := one(with(cellBox(9), api.Plane{A: 2, D: 3}))
	for name, x := range map[string]struct {
		s    api.Solid
		want int
		e    api.Errno
	}{
		"the first example":        {box(t, 0, 0, 0, 2, 3, 4), 24, api.OK},
		"no cells":                 {api.Solid{}, 0, api.OK},
		"apart":                    {union(cube(t, -3, -1), cube(t, 5, 6)), 9, api.OK},
		"touching":                 {union(cube(t, 0, 1), box(t, 1, 0, 0, 2, 1, 1)), 2, api.OK},
		"overlapping":              {union(cube(t, 0, 2), cube(t, 1, 3)), 15, api.OK},
		"a hundred times":          {api.Solid{Cells: slices.Repeat(cube(t, 0, 2).Cells, 100)}, 8, api.OK},
		"one in another one":       {union(cube(t, 1, 2), cube(t, 0, 9), cube(t, 3, 9)), 729, api.OK},
		"a cross":                  {union(box(t, -5, -1, -1, 5, 1, 1), box(t, -1, -5, -1, 1, 5, 1), box(t, -1, -1, -5, 1, 1, 5)), 40*3 - 2*8, api.OK},
		"the room":                 {cube(t, -300000, 300000), 216000000000000000, api.OK},
		"planes that do not count": {one(with(cellBox(1), api.Plane{A: 1, B: 1, D: 2}, api.Plane{A: 2, D: 3})), 8, api.OK},
		"planes not lowest":        {one(with(cellBox(9), api.Plane{A: 2, D: 6})), 12 * 18 * 18, api.OK},
		"slanted":                  {slanted, 0, api.ErrKind},
		"a box of fractions":       {half, 0, api.ErrKind},
		"the last one":             {union(cube(t, 0, 1), cube(t, 0, 1), half), 0, api.ErrKind},
		"wrong behind the kind":    {union(slanted, one(api.Cell{})), 0, api.ErrOpen},
	} {
		if v, e := solid.Volume(x.s); v != x.want || e != x.e {
			t.Errorf("%s: %d, %d, want %d, %d", name, v, e, x.want, x.e)
		}
	}
}

// P1.7: volumes of random boxes, counted point by point.
func TestVolumeCounted(t *testing.T) {
	s := seed(17)
	for range 50 {
		var u api.Solid
		var boxes [][6]int
		for range s.number(1, 6) {
			var b [6]int
			for axis := range 3 {
				b[axis] = s.number(-5, 4)
				b[axis+3] = s.number(b[axis]+1, 5)
			}
			boxes = append(boxes, b)
			u = union(u, box(t, b[0], b[1], b[2], b[3], b[4], b[5]))
		}
		count := 0
		for i := range 1000 {
			x, y, z := i/100-5, i/10%10-5, i%10-5
			if slices.ContainsFunc(boxes, func(b [6]int) bool {
				return b[0] <= x && x < b[3] && b[1] <= y && y < b[4] && b[2] <= z && z < b[5]
			}) {
				count++
			}
		}
		if v, e := solid.Volume(u); v != count || e != api.OK {
			t.Fatalf("%v: %d, %d, want %d", boxes, v, e, count)
		}
	}
}
