package solid_test

import (
	"cmp"
	"reflect"
	"slices"
	"testing"

	"spokeshave/api"
	"spokeshave/solid"
)

// box returns the solid of a box from a corner to the opposite one.
func box(t *testing.T, x1, y1, z1, x2, y2, z2 int) api.Solid {
	t.Helper()
	s, e := solid.OfBox(api.Box{X1: x1, Y1: y1, Z1: z1, X2: x2, Y2: y2, Z2: z2})
	if e != api.OK {
		t.Fatalf("box: %d", e)
	}
	return s
}

// cube returns the solid of a box with three equal ranges.
func cube(t *testing.T, from, to int) api.Solid {
	t.Helper()
	return box(t, from, from, from, to, to, to)
}

// union returns the solid of the cells of some solids.
func union(solids ...api.Solid) api.Solid {
	var s api.Solid
	for _, x := range solids {
		s.Cells = append(s.Cells, x.Cells...)
	}
	return s
}

// one returns the solid of one cell.
func one(c api.Cell) api.Solid {
	return api.Solid{Cells: []api.Cell{c}}
}

// with returns a cell with further planes.
func with(c api.Cell, planes ...api.Plane) api.Cell {
	return api.Cell{Planes: slices.Concat(c.Planes, planes)}
}

// cellBox returns the cell of a box around the origin.
func cellBox(half int) api.Cell {
	return api.Cell{Planes: []api.Plane{
		{A: -1, D: half}, {B: -1, D: half}, {C: -1, D: half}, {C: 1, D: half}, {B: 1, D: half}, {A: 1, D: half},
	}}
}

// fourteen returns a cell with 14 needed planes: a box of the half size 10 without its eight tips.
func fourteen() api.Cell {
	c := cellBox(10)
	for _, a := range []int{-1, 1} {
		for _, b := range []int{-1, 1} {
			c = with(c, api.Plane{A: a, B: b, C: -1, D: 22}, api.Plane{A: a, B: b, C: 1, D: 22})
		}
	}
	return c
}

// chamfers returns n planes that each cut off an edge of the cell fourteen.
func chamfers(n int) []api.Plane {
	all := []api.Plane{{A: 1, B: 1, D: 17}, {A: -1, B: 1, D: 17}, {A: 1, B: -1, D: 17}, {A: -1, B: -1, D: 17}}
	return all[:n]
}

// seed is a row of numbers that look random, but are the same in each run.
type seed uint64

func (s *seed) number(from, to int) int {
	*s = *s*6364136223846793005 + 1442695040888963407
	return from + int(uint64(*s)>>33)%(to-from+1)
}

// cell returns a valid cell: a box with some further planes through its neighbourhood.
func (s *seed) cell(size int) api.Cell {
	for {
		var planes []api.Plane
		for _, n := range []api.Plane{{A: 1}, {B: 1}, {C: 1}} {
			low := s.number(-size, size)
			high := s.number(low+1, size+1)
			planes = append(planes, api.Plane{A: n.A, B: n.B, C: n.C, D: high}, api.Plane{A: -n.A, B: -n.B, C: -n.C, D: -low})
		}
		for range s.number(0, 4) {
			limit := s.number(1, 8)
			p := api.Plane{A: s.number(-limit, limit), B: s.number(-limit, limit), C: s.number(-limit, limit)}
			p.D = p.A*s.number(-size, size) + p.B*s.number(-size, size) + p.C*s.number(-size, size)
			planes = slices.Insert(planes, s.number(0, len(planes)), p)
		}
		if c := (api.Cell{Planes: planes}); solid.CheckCell(c) == api.OK {
			return c
		}
	}
}

// solid returns a solid of some valid cells.
func (s *seed) solid(cells, size int) api.Solid {
	var u api.Solid
	for range cells {
		u.Cells = append(u.Cells, s.cell(size))
	}
	return u
}

// literal is what the chapter says of cells with any number of planes, with no thought for speed: the corners, whether there is inside, and the normal form.
func literal(planes []api.Plane) (corners []api.Corner, inside bool, form []api.Plane) {
	for i := range planes {
		for j := range i {
			for k := range j {
				c, ok := literalCorner(planes[i], planes[j], planes[k])
				if ok && !slices.Contains(corners, c) && !slices.ContainsFunc(planes, func(p api.Plane) bool { return literalSum(p, c) > 0 }) {
					corners = append(corners, c)
				}
			}
		}
	}
	slices.SortFunc(corners, func(a, b api.Corner) int {
		return cmp.Or(cmp.Compare(a.X*b.Den, b.X*a.Den), cmp.Compare(a.Y*b.Den, b.Y*a.Den), cmp.Compare(a.Z*b.Den, b.Z*a.Den))
	})
	inside = true
	for _, p := range planes {
		on, in := 0, 0
		for _, c := range corners {
			if literalSum(p, c) == 0 {
				on++
			} else {
				in++
			}
		}
		inside = inside && in > 0
		d := divisor(divisor(p.A, p.B), divisor(p.C, p.D))
		if p = (api.Plane{A: p.A / d, B: p.B / d, C: p.C / d, D: p.D / d}); on >= 3 && !slices.Contains(form, p) {
			form = append(form, p)
		}
	}
	slices.SortFunc(form, func(p, q api.Plane) int {
		return slices.Compare([]int{p.A, p.B, p.C, p.D}, []int{q.A, q.B, q.C, q.D})
	})
	return corners, inside, form
}

// literalSum is above 0 if a point lies beyond a plane, and 0 if it lies on it.
func literalSum(p api.Plane, c api.Corner) int {
	return p.A*c.X + p.B*c.Y + p.C*c.Z - p.D*c.Den
}

// literalCorner is the point on three planes, by Cramer's rule.
func literalCorner(p, q, r api.Plane) (api.Corner, bool) {
	det := func(a, b, c [3]int) int {
		return a[0]*b[1]*c[2] + a[1]*b[2]*c[0] + a[2]*b[0]*c[1] - a[2]*b[1]*c[0] - a[1]*b[0]*c[2] - a[0]*b[2]*c[1]
	}
	a, b, c, d := [3]int{p.A, q.A, r.A}, [3]int{p.B, q.B, r.B}, [3]int{p.C, q.C, r.C}, [3]int{p.D, q.D, r.D}
	den := det(a, b, c)
	if den == 0 {
		return api.Corner{}, false
	}
	x, y, z := det(d, b, c), det(a, d, c), det(a, b, d)
	g := divisor(divisor(x, y), divisor(z, den))
	if den < 0 {
		g = -g
	}
	return api.Corner{X: x / g, Y: y / g, Z: z / g, Den: den / g}, true
}

func divisor(a, b int) int {
	for b != 0 {
		a, b = b, a%b
	}
	return max(a, -a)
}

// alike reports whether two values are equal, a nil list being an empty one.
func alike(a, b any) bool {
	return reflect.DeepEqual(filled(reflect.ValueOf(a)).Interface(), filled(reflect.ValueOf(b)).Interface())
}

// filled returns a deep copy without nil lists.
func filled(v reflect.Value) reflect.Value {
	to := reflect.New(v.Type()).Elem()
	switch v.Kind() {
	case reflect.Slice:
		to.Set(reflect.MakeSlice(v.Type(), v.Len(), v.Len()))
		for i := range v.Len() {
			to.Index(i).Set(filled(v.Index(i)))
		}
	case reflect.Struct:
		for i := range v.NumField() {
			to.Field(i).Set(filled(v.Field(i)))
		}
	default:
		to.Set(v)
	}
	return to
}
