package solid_test

import (
	"math"
	"slices"
	"testing"

	"spokeshave/api"
	"spokeshave/solid"
)

// P1.5: the first pair of cells that overlap, with its corners.
func TestClashes(t *testing.T) {
	a := union(cube(t, 0, 4), cube(t, 2, 6), cube(t, 10, 12))
	for name, x := range map[string]struct {
		b    api.Solid
		want api.Overlap
		is   bool
	}{
		"the first pair":            {union(cube(t, 3, 9), cube(t, 0, 9)), api.Overlap{Corners: corners(t, cube(t, 3, 4))}, true},
		"the second of b":           {union(cube(t, 20, 21), cube(t, -1, 1)), api.Overlap{B: 1, Corners: corners(t, cube(t, 0, 1))}, true},
		"the cell of a comes first": {union(cube(t, 5, 9), cube(t, -1, 1)), api.Overlap{B: 1, Corners: corners(t, cube(t, 0, 1))}, true},
		"the third of a":            {union(cube(t, 20, 21), cube(t, 11, 13)), api.Overlap{A: 2, B: 1, Corners: corners(t, cube(t, 11, 12))}, true},
		"a face":                    {box(t, 6, 2, 2, 8, 6, 6), api.Overlap{}, false},
		"an edge":                   {box(t, 6, 6, 2, 8, 8, 6), api.Overlap{}, false},
		"a corner":                  {cube(t, 6, 10), api.Overlap{}, false},
		"nothing":                   {api.Solid{}, api.Overlap{}, false},
	} {
		if o, is, e := solid.Clashes(a, x.b); !alike(o, x.want) || is != x.is || e != api.OK {
			t.Errorf("%s: %v, %v, %d, want %v", name, o, is, e, x.want)
		}
	}
	if o, is, e := solid.Clashes(api.Solid{}, a); !alike(o, api.Overlap{}) || is || e != api.OK {
		t.Errorf("nothing: %v, %v, %d", o, is, e)
	}
}

// corners returns the corners of a solid of one cell.
func corners(t *testing.T, s api.Solid) []api.Corner {
	t.Helper()
	l, e := solid.Corners(s.Cells[0])
	if e != api.OK {
		t.Fatalf("corners: %d", e)
	}
	return l
}

// P1.5: overlaps of random cells are those of the definitions, and are accepted as witnesses.
func TestClashesLiterally(t *testing.T) {
	s := seed(15)
	count := 0
	for i := range 500 {
		size := []int{2, 5, 100}[i%3]
		a, b := s.solid(2, size), s.solid(2, size)
		var want api.Overlap
		found := false
		for j := range 4 {
			l, inside, _ := literal(slices.Concat(a.Cells[j/2].Planes, b.Cells[j%2].Planes))
			if inside && !found {
				want, found = api.Overlap{A: j / 2, B: j % 2, Corners: l}, true
			}
		}
		o, is, e := solid.Clashes(a, b)
		if e != api.OK || is != found || !alike(o, want) {
			t.Fatalf("%v and %v: %v, %v, %d, want %v, %v", a, b, o, is, e, want, found)
		}
		if !is {
			continue
		}
		count++
		if e := solid.CheckOverlap(a, b, o); e != api.OK {
			t.Fatalf("%v and %v: the witness %v is refused: %d", a, b, o, e)
		}
		// The points of one plane are no witness.
		p := a.Cells[o.A].Planes[0]
		o.Corners = slices.DeleteFunc(o.Corners, func(c api.Corner) bool { return literalSum(p, c) < 0 })
		if e := solid.CheckOverlap(a, b, o); e != api.ErrProof {
			t.Fatalf("%v and %v: the points %v are accepted: %d", a, b, o, e)
		}
	}
	if count < 100 || count > 490 {
		t.Errorf("%d of 500 overlap", count)
	}
}

// P1.5: what a witness may be, and which error comes first.
func TestCheckOverlap(t *testing.T) {
	a, b := union(cube(t, 90, 91), cube(t, 0, 2)), cube(t, 1, 3)
	at := func(x, y, z, den int) api.Corner { return api.Corner{X: x, Y: y, Z: z, Den: den} }
	middle, wrong := at(3, 3, 3, 2), at(0, 0, 0, 0)
	for name, x := range map[string]struct {
		o    api.Overlap
		want api.Errno
	}{
		"one point inside":               {api.Overlap{A: 1, Corners: []api.Corner{middle}}, api.OK},
		"not in lowest form, repeated":   {api.Overlap{A: 1, Corners: []api.Corner{at(6, 6, 6, 4), middle, at(6, 6, 6, 4)}}, api.OK},
		"two opposite corners":           {api.Overlap{A: 1, Corners: []api.Corner{at(2, 2, 2, 1), at(1, 1, 1, 1)}}, api.OK},
		"two corners of a face":          {api.Overlap{A: 1, Corners: []api.Corner{at(1, 1, 1, 1), at(1, 2, 2, 1)}}, api.ErrProof},
		"the corners of a face":          {api.Overlap{A: 1, Corners: []api.Corner{at(1, 1, 1, 1), at(1, 2, 2, 1), at(1, 1, 2, 1), at(1, 2, 1, 1)}}, api.ErrProof},
		"a point beyond":                 {api.Overlap{A: 1, Corners: []api.Corner{middle, at(5, 3, 3, 2)}}, api.ErrProof},
		"a point barely beyond a":        {api.Overlap{A: 1, Corners: []api.Corner{middle, at(10001, 10000, 10000, 5000)}}, api.ErrProof},
		"a point barely beyond b":        {api.Overlap{A: 1, Corners: []api.Corner{middle, at(4999, 5000, 5000, 5000)}}, api.ErrProof},
		"no points":                      {api.Overlap{A: 1}, api.ErrProof},
		"another cell":                   {api.Overlap{Corners: []api.Corner{middle}}, api.ErrProof},
		"A is 2":                         {api.Overlap{A: 2, Corners: []api.Corner{wrong}}, api.ErrMissing},
		"A is -1":                        {api.Overlap{A: -1}, api.ErrMissing},
		"B is 1":                         {api.Overlap{A: 1, B: 1}, api.ErrMissing},
		"B is -1":                        {api.Overlap{A: 1, B: math.MinInt}, api.ErrMissing},
		"missing ahead of large":         {api.Overlap{B: math.MaxInt, Corners: make([]api.Corner, 1001)}, api.ErrMissing},
		"1000 points":                    {api.Overlap{A: 1, Corners: slices.Repeat([]api.Corner{middle}, 1000)}, api.OK},
		"1001 points":                    {api.Overlap{A: 1, Corners: slices.Repeat([]api.Corner{middle}, 1001)}, api.ErrLarge},
		"1001 wrong points":              {api.Overlap{A: 1, Corners: make([]api.Corner, 1001)}, api.ErrLarge},
		"wrong point":                    {api.Overlap{A: 1, Corners: []api.Corner{middle, wrong}}, api.ErrRange},
		"wrong point behind one beyond":  {api.Overlap{A: 1, Corners: []api.Corner{at(9, 9, 9, 1), at(0, 0, 0, 5001)}}, api.ErrRange},
		"a point out of the room":        {api.Overlap{A: 1, Corners: []api.Corner{at(300001, 0, 0, 1)}}, api.ErrRange},
		"a point with a large numerator": {api.Overlap{A: 1, Corners: []api.Corner{at(0, 0, math.MaxInt, 5000)}}, api.ErrRange},
	} {
		if e := solid.CheckOverlap(a, b, x.o); e != x.want {
			t.Errorf("%s: %d, want %d", name, e, x.want)
		}
	}
	if e := solid.CheckOverlap(one(api.Cell{}), b, api.Overlap{A: -1}); e != api.ErrOpen {
		t.Errorf("a is wrong: %d", e)
	}
	if e := solid.CheckOverlap(a, one(api.Cell{}), api.Overlap{A: -1}); e != api.ErrOpen {
		t.Errorf("b is wrong: %d", e)
	}
	if e := solid.CheckOverlap(api.Solid{}, api.Solid{}, api.Overlap{}); e != api.ErrMissing {
		t.Errorf("no cells: %d", e)
	}
}

// P1.6: contacts on faces.
func TestTouches(t *testing.T) {
	a := union(cube(t, 0, 4), box(t, 4, 0, 0, 8, 4, 4))
	b := union(box(t, 2, 4, 1, 6, 5, 3), box(t, 0, 0, -2, 2, 9, 0), cube(t, 3, 5))
	rectangle := func(at [4][3]int) []api.Corner {
		var l []api.Corner
		for _, c := range at {
			l = append(l, api.Corner{X: c[0], Y: c[1], Z: c[2], Den: 1})
		}
		return l
	}
	want := []api.Contact{
		{A: 0, B: 0, Plane: api.Plane{B: 1, D: 4}, Corners: rectangle([4][3]int{{2, 4, 1}, {2, 4, 3}, {4, 4, 1}, {4, 4, 3}})},
		{A: 0, B: 1, Plane: api.Plane{C: -1}, Corners: rectangle([4][3]int{{0, 0, 0}, {0, 4, 0}, {2, 0, 0}, {2, 4, 0}})},
		{A: 1, B: 0, Plane: api.Plane{B: 1, D: 4}, Corners: rectangle([4][3]int{{4, 4, 1}, {4, 4, 3}, {6, 4, 1}, {6, 4, 3}})},
	}
	if l, e := solid.Touches(a, b); e != api.OK || !alike(l, want) {
		t.Errorf("three contacts: %v, %d", l, e)
	}
	for name, b := range map[string]api.Solid{
		"overlap":             cube(t, 1, 2),
		"overlap to a face":   box(t, -1, 0, 0, 2, 4, 4),
		"an edge":             box(t, -1, -1, 0, 0, 0, 4),
		"a corner":            cube(t, -1, 0),
		"a distance":          cube(t, 20, 21),
		"a plane in common":   box(t, 0, 10, 0, 8, 12, 4),
		"the plane, not more": box(t, -2, 4, 5, -1, 9, 9),
		"no cells":            {},
	} {
		if l, e := solid.Touches(a, b); e != api.OK || len(l) != 0 {
			t.Errorf("%s: %v, %d", name, l, e)
		}
	}
}

// P1.6: a contact on a plane that both cells have in other than lowest forms, with corners of fractions.
func TestTouchesSlanted(t *testing.T) {
	lower := one(with(cellBox(9), api.Plane{A: 4, B: 2, C: 2, D: 1}))
	upper := one(with(cellBox(9), api.Plane{A: -8, B: -4, C: -4, D: -2}, api.Plane{A: 1, B: 1, C: 1, D: 1}))
	plane := api.Plane{A: 4, B: 2, C: 2, D: 1}
	want, _, _ := literal(slices.Concat(lower.Cells[0].Planes, upper.Cells[0].Planes))
	l, e := solid.Touches(lower, upper)
	if e != api.OK || len(l) != 1 || l[0].Plane != plane || len(want) < 3 || !alike(l[0].Corners, want) {
		t.Errorf("below: %v, %d, want %v", l, e, want)
	}
	plane = api.Plane{A: -4, B: -2, C: -2, D: -1}
	if l, e := solid.Touches(upper, lower); e != api.OK || len(l) != 1 || l[0].Plane != plane || !alike(l[0].Corners, want) {
		t.Errorf("above: %v, %d, want %v", l, e, want)
	}
}

// P1.6: contacts of random cells on both sides of a plane are those of the definition.
func TestTouchesLiterally(t *testing.T) {
	s := seed(16)
	count := 0
	for range 2000 {
		p := api.Plane{A: s.number(-2, 2), B: s.number(-2, 2), C: s.number(-2, 2), D: s.number(-3, 3)}
		a := one(with(s.cell(4), p))
		b := union(one(with(s.cell(4), api.Plane{A: -p.A, B: -p.B, C: -p.C, D: -p.D})), s.solid(1, 4))
		if solid.Check(a) != api.OK || solid.Check(b) != api.OK {
			continue
		}
		want := literalTouches(a, b)
		if l, e := solid.Touches(a, b); e != api.OK || !alike(l, want) {
			t.Fatalf("%v and %v: %v, %d, want %v", a, b, l, e, want)
		}
		count += len(want)
	}
	if count < 100 {
		t.Errorf("%d contacts", count)
	}
}

func literalTouches(a, b api.Solid) []api.Contact {
	var contacts []api.Contact
	for i, c := range a.Cells {
		for j, d := range b.Cells {
			l, inside, _ := literal(slices.Concat(c.Planes, d.Planes))
			if inside || len(l) < 3 {
				continue
			}
			_, _, form := literal(c.Planes)
			for _, p := range form {
				if !slices.ContainsFunc(l, func(q api.Corner) bool { return literalSum(p, q) != 0 }) {
					contacts = append(contacts, api.Contact{A: i, B: j, Plane: p, Corners: l})
				}
			}
		}
	}
	return contacts
}
