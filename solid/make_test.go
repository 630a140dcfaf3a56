package solid_test

import (
	"math"
	"testing"

	"spokeshave/api"
	"spokeshave/solid"
)

// P1.3: boxes.
func TestOfBox(t *testing.T) {
	want := one(api.Cell{Planes: []api.Plane{{A: -1, D: 1}, {B: -1, D: 0}, {C: -1, D: -2}, {C: 1, D: 4}, {B: 1, D: 3}, {A: 1, D: 2}}})
	if s := box(t, -1, 0, 2, 2, 3, 4); !alike(s, want) {
		t.Errorf("box: %v", s)
	}
	for _, x := range []struct {
		b    api.Box
		want api.Errno
	}{
		{api.Box{X1: -300000, Y1: -300000, Z1: -300000, X2: 300000, Y2: 300000, Z2: 300000}, api.OK},
		{api.Box{X2: 1, Y2: 1, Z2: 300001}, api.ErrRange},
		{api.Box{X1: -300001, X2: 1, Y2: 1, Z2: 1}, api.ErrRange},
		{api.Box{X2: 1, Y2: 1, Z2: math.MinInt}, api.ErrRange},
		{api.Box{X1: 300001, Y2: 1, Z2: 1}, api.ErrRange},
		{api.Box{Y2: 1, Z2: 300001}, api.ErrRange}, // ahead of the form
		{api.Box{}, api.ErrForm},
		{api.Box{Y2: 1, Z2: 1}, api.ErrForm},
		{api.Box{X2: 1, Y1: 2, Y2: 1, Z2: 1}, api.ErrForm},
		{api.Box{X2: 1, Y2: 1}, api.ErrForm},
	} {
		if s, e := solid.OfBox(x.b); e != x.want || e != api.OK && !alike(s, api.Solid{}) {
			t.Errorf("%v: %v, %d, want %d", x.b, s, e, x.want)
		}
	}
}

// triangle is the polygon of the chapter's second example.
var triangle = []api.Point{{X: 0, Y: 0}, {X: 4, Y: 0}, {X: 0, Y: 2}}

// P1.3: the coordinates of a prism's polygon.
func TestPrismAxes(t *testing.T) {
	for axis, want := range [][]api.Plane{
		{{A: -1, D: 5}, {B: -1}, {C: -1}, {B: 1, C: 2, D: 4}, {A: 1, D: 7}},
		{{A: -1}, {B: -1, D: 5}, {C: -1}, {B: 1, D: 7}, {A: 2, C: 1, D: 4}},
		{{A: -1}, {B: -1}, {C: -1, D: 5}, {C: 1, D: 7}, {A: 1, B: 2, D: 4}},
	} {
		s, e := solid.Prism(axis, triangle, [2]int{-5, 7})
		if form, _ := solid.Normal(api.Cell{Planes: want}); e != api.OK || !alike(s, one(form)) {
			t.Errorf("axis %d: %v, %d, want %v", axis, s, e, form)
		}
	}
}

// ring is a polygon with 14 corners.
var ring = []api.Point{{X: 0, Y: 0}, {X: 4, Y: 0}, {X: 8, Y: 1}, {X: 10, Y: 2}, {X: 11, Y: 3}, {X: 12, Y: 5}, {X: 13, Y: 9}, {X: 13, Y: 12}, {X: 12, Y: 14}, {X: 10, Y: 16}, {X: 6, Y: 17}, {X: 1, Y: 17}, {X: 0, Y: 16}, {X: -1, Y: 8}}

// P1.3: polygons and ends.
func TestPrism(t *testing.T) {
	room := []api.Point{{X: -300000, Y: -300000}, {X: 300000, Y: -300000}, {X: 300000, Y: 300000}, {X: -300000, Y: 300000}}
	for name, x := range map[string]struct {
		axis int
		l    []api.Point
		ends [2]int
		want api.Errno
	}{
		"triangle":                      {2, triangle, [2]int{0, 1}, api.OK},
		"the room":                      {0, room, [2]int{-300000, 300000}, api.OK},
		"sides of the size 8":           {0, []api.Point{{X: 0, Y: 0}, {X: 8, Y: 7}, {X: 7, Y: 8}}, [2]int{0, 1}, api.OK},
		"sides with a divisor":          {0, []api.Point{{X: 0, Y: 0}, {X: 80, Y: 70}, {X: 70, Y: 80}}, [2]int{0, 1}, api.OK},
		"axis -1":                       {-1, nil, [2]int{}, api.ErrRange},
		"axis 3":                        {3, triangle, [2]int{0, 1}, api.ErrRange},
		"no corners":                    {0, nil, [2]int{300001, 0}, api.ErrShape},
		"two corners":                   {0, triangle[:2], [2]int{0, 1}, api.ErrShape},
		"15 corners":                    {0, make([]api.Point, 15), [2]int{0, 1}, api.ErrShape},
		"14 corners, all the same":      {0, make([]api.Point, 14), [2]int{0, 1}, api.ErrForm},
		"corner out of the room":        {0, []api.Point{{X: 0, Y: 0}, {X: 4, Y: 0}, {X: 0, Y: 300001}}, [2]int{1, 1}, api.ErrRange},
		"corner far out of the room":    {0, []api.Point{{X: 0, Y: 0}, {X: 4, Y: 0}, {X: math.MinInt, Y: 2}}, [2]int{0, 1}, api.ErrRange},
		"end out of the room":           {0, triangle, [2]int{0, 300001}, api.ErrRange},
		"first end out of the room":     {0, triangle, [2]int{-300001, 0}, api.ErrRange},
		"equal ends":                    {0, triangle, [2]int{1, 1}, api.ErrForm},
		"ends the other way":            {0, triangle, [2]int{2, 1}, api.ErrForm},
		"the other way round":           {2, []api.Point{{X: 0, Y: 0}, {X: 0, Y: 2}, {X: 4, Y: 0}}, [2]int{0, 1}, api.ErrForm},
		"corners of a line":             {2, []api.Point{{X: 0, Y: 0}, {X: 1, Y: 1}, {X: 2, Y: 2}}, [2]int{0, 1}, api.ErrForm},
		"a corner on a side":            {2, []api.Point{{X: 0, Y: 0}, {X: 2, Y: 0}, {X: 4, Y: 0}, {X: 0, Y: 2}}, [2]int{0, 1}, api.ErrForm},
		"a corner twice":                {2, []api.Point{{X: 0, Y: 0}, {X: 4, Y: 0}, {X: 4, Y: 0}, {X: 0, Y: 2}}, [2]int{0, 1}, api.ErrForm},
		"twice around":                  {2, append(append([]api.Point{}, triangle...), triangle...), [2]int{0, 1}, api.ErrForm},
		"a dent":                        {2, []api.Point{{X: 0, Y: 0}, {X: 4, Y: 0}, {X: 1, Y: 1}, {X: 0, Y: 4}}, [2]int{0, 1}, api.ErrForm},
		"a dent first":                  {2, []api.Point{{X: 1, Y: 1}, {X: 0, Y: 4}, {X: 0, Y: 0}, {X: 4, Y: 0}}, [2]int{0, 1}, api.ErrForm},
		"a star":                        {2, []api.Point{{X: 0, Y: 10}, {X: -6, Y: -8}, {X: 9, Y: 3}, {X: -9, Y: 3}, {X: 6, Y: -8}}, [2]int{0, 1}, api.ErrForm},
		"a normal (9, 1)":               {2, []api.Point{{X: 0, Y: 0}, {X: 1, Y: 0}, {X: 0, Y: 9}}, [2]int{0, 1}, api.ErrRange},
		"a normal (-9, -1)":             {2, []api.Point{{X: 0, Y: 9}, {X: 1, Y: 0}, {X: 1, Y: 9}}, [2]int{0, 1}, api.ErrRange},
		"a normal (1, 9)":               {2, []api.Point{{X: 0, Y: 0}, {X: 9, Y: 0}, {X: 0, Y: 1}}, [2]int{0, 1}, api.ErrRange},
		"a normal (1, -9)":              {2, []api.Point{{X: 0, Y: 0}, {X: 9, Y: 1}, {X: 0, Y: 1}}, [2]int{0, 1}, api.ErrRange},
		"a form behind a wrong normal":  {2, []api.Point{{X: 0, Y: 0}, {X: 9, Y: 1}, {X: 9, Y: 1}}, [2]int{0, 1}, api.ErrForm},
		"ends behind a wrong normal":    {2, []api.Point{{X: 0, Y: 0}, {X: 9, Y: 1}, {X: 0, Y: 1}}, [2]int{1, 0}, api.ErrForm},
		"a large normal in a long side": {2, []api.Point{{X: 0, Y: 0}, {X: 300000, Y: 1}, {X: 0, Y: 1}}, [2]int{0, 1}, api.ErrRange},
		"14 corners":                    {1, ring, [2]int{0, 1}, api.OK},
	} {
		s, e := solid.Prism(x.axis, x.l, x.ends)
		if e != x.want || e != api.OK && !alike(s, api.Solid{}) {
			t.Errorf("%s: %v, %d, want %d", name, s, e, x.want)
		}
	}
}

// P1.3: a prism is a cell in normal form whose corners are those of the polygon at both ends.
func TestPrismCorners(t *testing.T) {
	for axis := range 3 {
		s, e := solid.Prism(axis, ring, [2]int{-2, 3})
		if e != api.OK || len(s.Cells) != 1 || len(s.Cells[0].Planes) != 16 {
			t.Fatalf("prism: %v, %d", s, e)
		}
		if n, e := solid.Normal(s.Cells[0]); e != api.OK || !alike(n, s.Cells[0]) {
			t.Errorf("not in normal form: %v, %d", n, e)
		}
		l, _ := solid.Corners(s.Cells[0])
		found := map[api.Corner]bool{}
		for _, c := range l {
			found[c] = true
		}
		for _, p := range ring {
			for _, end := range []int{-2, 3} {
				var at [3]int
				at[axis], at[(axis+1)%3], at[(axis+2)%3] = end, p.X, p.Y
				if !found[api.Corner{X: at[0], Y: at[1], Z: at[2], Den: 1}] {
					t.Errorf("axis %d: no corner %v", axis, at)
				}
			}
		}
		if len(l) != 28 {
			t.Errorf("axis %d: %d corners", axis, len(l))
		}
	}
}

// P1.3: the least box with whole numbers, rounded outwards also below 0.
func TestBounds(t *testing.T) {
	half := api.Cell{Planes: []api.Plane{{A: -2, D: 7}, {A: 2, D: -5}, {B: -3, D: -1}, {B: 3, D: 5}, {C: 1, D: 9}, {C: -1, D: -8}}}
	b, e := solid.Bounds(one(half))
	if want := (api.Box{X1: -4, Y1: 0, Z1: 8, X2: -2, Y2: 2, Z2: 9}); b != want || e != api.OK {
		t.Errorf("fractions: %v, %d", b, e)
	}
	b, e = solid.Bounds(union(one(half), box(t, -9, 5, 2, -8, 6, 3), box(t, 0, 0, 0, 1, 1, 1)))
	if want := (api.Box{X1: -9, Y1: 0, Z1: 0, X2: 1, Y2: 6, Z2: 9}); b != want || e != api.OK {
		t.Errorf("three cells: %v, %d", b, e)
	}
	b, e = solid.Bounds(one(with(cellBox(300000), api.Plane{A: 1, D: 400000})))
	if want := (api.Box{X1: -300000, Y1: -300000, Z1: -300000, X2: 300000, Y2: 300000, Z2: 300000}); b != want || e != api.OK {
		t.Errorf("the room: %v, %d", b, e)
	}
	if b, e := solid.Bounds(api.Solid{}); b != (api.Box{}) || e != api.ErrNone {
		t.Errorf("no cells: %v, %d", b, e)
	}
	if b, e := solid.Bounds(one(api.Cell{})); b != (api.Box{}) || e != api.ErrOpen {
		t.Errorf("no cell: %v, %d", b, e)
	}
}

// P1.3: the bounds of random cells are those of their corners.
func TestBoundsOfCorners(t *testing.T) {
	s := seed(13)
	for range 300 {
		c := s.cell(30)
		l := corners(t, one(c))
		b, e := solid.Bounds(one(c))
		for axis, ends := range [][2]int{{b.X1, b.X2}, {b.Y1, b.Y2}, {b.Z1, b.Z2}} {
			low, high := math.Inf(1), math.Inf(-1)
			for _, q := range l {
				at := float64([]int{q.X, q.Y, q.Z}[axis]) / float64(q.Den)
				low, high = min(low, at), max(high, at)
			}
			if want := [2]int{int(math.Floor(low)), int(math.Ceil(high))}; e != api.OK || ends != want {
				t.Fatalf("%v: from %v on the axis %d, %d, want %v", c, ends, axis, e, want)
			}
		}
	}
}
