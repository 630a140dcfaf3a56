package solid_test

import (
	"math"
	"testing"

	"spokeshave/api"
	"spokeshave/solid"
)

// P1.2: needed planes, in lowest form, each once, ascending.
func TestNormal(t *testing.T) {
	c := cellBox(6)
	for name, x := range map[string]struct {
		c, want api.Cell
	}{
		"in normal form":         {c, c},
		"backwards":              {api.Cell{Planes: []api.Plane{{A: 1, D: 6}, {B: 1, D: 6}, {C: 1, D: 6}, {C: -1, D: 6}, {B: -1, D: 6}, {A: -1, D: 6}}}, c},
		"twice":                  {with(c, c.Planes...), c},
		"not lowest":             {with(c, api.Plane{A: 2, D: 12}, api.Plane{B: -8, D: 48}), c},
		"far away":               {with(c, api.Plane{A: 1, D: 7}, api.Plane{A: 1, B: 1, C: 1, D: 20}), c},
		"touches an edge":        {with(c, api.Plane{A: 1, B: 1, D: 12}), c},
		"touches a corner":       {with(c, api.Plane{A: 1, B: 1, C: 1, D: 18}), c},
		"cuts":                   {with(c, api.Plane{A: -4, B: -4, D: 40}), api.Cell{Planes: append([]api.Plane{{A: -1, B: -1, D: 10}}, c.Planes...)}},
		"D that does not divide": {api.Cell{Planes: append([]api.Plane{{A: 4, D: 2}}, c.Planes[:5]...)}, api.Cell{Planes: append(append([]api.Plane{}, c.Planes[:5]...), api.Plane{A: 2, D: 1})}},
		"D of 0":                 {api.Cell{Planes: append([]api.Plane{{A: 4}}, c.Planes[:5]...)}, api.Cell{Planes: append(append([]api.Plane{}, c.Planes[:5]...), api.Plane{A: 1})}},
	} {
		if n, e := solid.Normal(x.c); e != api.OK || !alike(n, x.want) {
			t.Errorf("%s: %v, %d", name, n, e)
		}
	}
	if n, e := solid.Normal(api.Cell{}); e != api.ErrOpen || !alike(n, api.Cell{}) {
		t.Errorf("no cell: %v, %d", n, e)
	}
}

// P1.2: the corners, ascending, in lowest form.
func TestCorners(t *testing.T) {
	b := box(t, 0, 0, 0, 2, 3, 4)
	want := []api.Corner{
		{Den: 1}, {Z: 4, Den: 1}, {Y: 3, Den: 1}, {Y: 3, Z: 4, Den: 1},
		{X: 2, Den: 1}, {X: 2, Z: 4, Den: 1}, {X: 2, Y: 3, Den: 1}, {X: 2, Y: 3, Z: 4, Den: 1},
	}
	if l, e := solid.Corners(b.Cells[0]); e != api.OK || !alike(l, want) {
		t.Errorf("box: %v, %d", l, e)
	}
	// The second example of the chapter: fractions are compared by their values.
	s, _ := solid.Prism(2, []api.Point{{X: 0, Y: 0}, {X: 4, Y: 0}, {X: 0, Y: 2}}, [2]int{0, 1})
	want = []api.Corner{
		{Den: 1}, {Z: 1, Den: 1}, {Y: 2, Den: 1}, {Y: 2, Z: 1, Den: 1},
		{X: 3, Den: 1}, {X: 3, Z: 1, Den: 1}, {X: 6, Y: 1, Den: 2}, {X: 6, Y: 1, Z: 2, Den: 2},
	}
	if l, e := solid.Corners(with(s.Cells[0], api.Plane{A: 1, D: 3})); e != api.OK || !alike(l, want) {
		t.Errorf("prism: %v, %d", l, e)
	}
	if l, e := solid.Corners(api.Cell{Planes: make([]api.Plane, 17)}); e != api.ErrLarge || len(l) != 0 {
		t.Errorf("no cell: %v, %d", l, e)
	}
}

// P1.2: corners and normal forms of random cells are those of the definitions.
func TestCellsLiterally(t *testing.T) {
	s := seed(12)
	for i := range 600 {
		c := s.cell([]int{3, 12, 200000}[i%3])
		corners, _, form := literal(c.Planes)
		if l, e := solid.Corners(c); e != api.OK || !alike(l, corners) {
			t.Fatalf("corners of %v: %v, %d", c, l, e)
		}
		if n, e := solid.Normal(c); e != api.OK || !alike(n.Planes, form) {
			t.Fatalf("normal form of %v: %v, %d", c, n, e)
		}
	}
}

// P1.2: on which side of a plane a point lies.
func TestSide(t *testing.T) {
	p := api.Plane{A: 2, B: -1, C: 3, D: 4}
	for _, x := range []struct {
		p    api.Plane
		c    api.Corner
		want int
		e    api.Errno
	}{
		{p, api.Corner{X: 1, Z: 1, Den: 1}, 1, api.OK},
		{p, api.Corner{X: 1, Y: 1, Z: 1, Den: 1}, 0, api.OK},
		{p, api.Corner{X: 2, Y: 2, Z: 2, Den: 2}, 0, api.OK},
		{p, api.Corner{X: 4999, Y: 5000, Z: 5000, Den: 5000}, -1, api.OK},
		{p, api.Corner{Den: 1}, -1, api.OK},
		{api.Plane{A: 1, D: -1}, api.Corner{X: -3, Den: 2}, -1, api.OK},
		{api.Plane{A: 1, B: 1, C: 1, D: 900000}, api.Corner{X: 300000 * 5000, Y: 300000 * 5000, Z: 300000 * 5000, Den: 5000}, 0, api.OK},
		{p, api.Corner{}, 0, api.ErrRange},
		{p, api.Corner{Den: -1}, 0, api.ErrRange},
		{p, api.Corner{X: 1, Den: 5001}, 0, api.ErrRange},
		{p, api.Corner{X: 600001, Den: 2}, 0, api.ErrRange},
		{p, api.Corner{Y: -600001, Den: 2}, 0, api.ErrRange},
		{p, api.Corner{Z: math.MinInt, Den: 2}, 0, api.ErrRange},
		{p, api.Corner{X: 1, Den: math.MaxInt}, 0, api.ErrRange},
		{api.Plane{}, api.Corner{}, 0, api.ErrZero},
		{api.Plane{A: 9}, api.Corner{Den: 1}, 0, api.ErrRange},
	} {
		if n, e := solid.Side(x.p, x.c); n != x.want || e != x.e {
			t.Errorf("%v, %v: %d, %d, want %d, %d", x.p, x.c, n, e, x.want, x.e)
		}
	}
}

// P1.2: inside of a cell, in one, or outside of all of them.
func TestWhere(t *testing.T) {
	s := union(box(t, 0, 0, 0, 2, 2, 2), box(t, 2, 0, 0, 4, 2, 2), box(t, 3, 0, 0, 6, 2, 2))
	for _, x := range []struct {
		c    api.Corner
		want int
	}{
		{api.Corner{X: 1, Y: 1, Z: 1, Den: 1}, 1},
		{api.Corner{X: 1, Y: 1, Z: 1, Den: 5000}, 1},
		{api.Corner{X: 2, Y: 1, Z: 1, Den: 1}, 0}, // on two cells, inside of none
		{api.Corner{X: 3, Y: 1, Z: 1, Den: 1}, 1}, // inside of one, on another one
		{api.Corner{X: 4, Y: 1, Z: 1, Den: 1}, 1},
		{api.Corner{X: 6, Y: 2, Z: 2, Den: 1}, 0},
		{api.Corner{X: 6, Y: 2, Z: 3, Den: 1}, -1},
		{api.Corner{X: -1, Y: 1, Z: 1, Den: 5000}, -1},
	} {
		if n, e := solid.Where(s, x.c); n != x.want || e != api.OK {
			t.Errorf("%v: %d, %d, want %d", x.c, n, e, x.want)
		}
	}
	if n, e := solid.Where(api.Solid{}, api.Corner{Den: 1}); n != -1 || e != api.OK {
		t.Errorf("no cell: %d, %d", n, e)
	}
	if n, e := solid.Where(s, api.Corner{}); n != 0 || e != api.ErrRange {
		t.Errorf("no point: %d, %d", n, e)
	}
	if n, e := solid.Where(one(api.Cell{}), api.Corner{}); n != 0 || e != api.ErrOpen {
		t.Errorf("neither: %d, %d", n, e)
	}
}
