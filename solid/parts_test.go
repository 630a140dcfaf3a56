package solid_test

import (
	"slices"
	"testing"

	"spokeshave/api"
	"spokeshave/solid"
)

// holes returns n boxes of the size 1 in a row through the box 0..1000. Each one splits the last but one of the pieces that the box is left in, and makes five pieces more.
func holes(t *testing.T, n int) api.Solid {
	t.Helper()
	var s api.Solid
	for i := 1; i <= n; i++ {
		s = union(s, cube(t, 10*i, 10*i+1))
	}
	return s
}

// aside returns n boxes that are away from the box 0..1000.
func aside(t *testing.T, n int) api.Solid {
	t.Helper()
	var s api.Solid
	for i := range n {
		s = union(s, cube(t, 2000+2*i, 2001+2*i))
	}
	return s
}

// P1.4: common cells, in their order, in normal form.
func TestMeet(t *testing.T) {
	a := union(cube(t, 0, 4), cube(t, 2, 6), cube(t, 90, 91))
	b := union(cube(t, 3, 9), cube(t, 4, 5), cube(t, -1, 3))
	want := union(cube(t, 3, 4), cube(t, 0, 3), cube(t, 3, 6), cube(t, 4, 5), cube(t, 2, 3))
	if s, e := solid.Meet(a, b); e != api.OK || !alike(s, want) {
		t.Errorf("cubes: %v, %d", s, e)
	}
	if s, e := solid.Meet(one(with(cellBox(9), api.Plane{A: 4, D: 20}, api.Plane{A: 1, D: 8})), one(cellBox(9))); e != api.OK || !alike(s, box(t, -9, -9, -9, 5, 9, 9)) {
		t.Errorf("not in normal form: %v, %d", s, e)
	}
	for _, x := range [][2]api.Solid{{{}, a}, {a, {}}, {{}, {}}, {cube(t, 0, 1), cube(t, 1, 2)}} {
		if s, e := solid.Meet(x[0], x[1]); e != api.OK || len(s.Cells) != 0 {
			t.Errorf("nothing in common: %v, %d", s, e)
		}
	}
}

// P1.4: the limits of what Meet returns.
func TestMeetLarge(t *testing.T) {
	around := cellBox(50)
	for n, want := range map[int]api.Errno{2: api.OK, 3: api.ErrLarge, 4: api.ErrLarge} {
		s, e := solid.Meet(one(fourteen()), one(with(around, chamfers(n)...)))
		if e != want || e != api.OK && !alike(s, api.Solid{}) {
			t.Errorf("%d chamfers: %v, %d, want %d", n, s, e, want)
		}
	}
	ten := api.Solid{Cells: slices.Repeat(cube(t, 0, 2).Cells, 10)}
	if s, e := solid.Meet(ten, ten); e != api.OK || len(s.Cells) != 100 {
		t.Errorf("100 cells: %d, %d", len(s.Cells), e)
	}
	eleven := api.Solid{Cells: slices.Repeat(cube(t, 0, 2).Cells, 11)}
	if s, e := solid.Meet(ten, eleven); e != api.ErrLarge || !alike(s, api.Solid{}) {
		t.Errorf("110 cells: %d, %d", len(s.Cells), e)
	}
}

// P1.4: the cells of both, as they are.
func TestJoin(t *testing.T) {
	odd := one(with(cellBox(9), api.Plane{A: 4, D: 20}, api.Plane{A: 1, D: 8}))
	a, b := union(odd, cube(t, 0, 1)), union(cube(t, 0, 1), odd)
	if s, e := solid.Join(a, b); e != api.OK || !alike(s, union(a, b)) {
		t.Errorf("join: %v, %d", s, e)
	}
	if s, e := solid.Join(api.Solid{}, api.Solid{}); e != api.OK || len(s.Cells) != 0 {
		t.Errorf("nothing: %v, %d", s, e)
	}
	hundred := api.Solid{Cells: slices.Repeat(odd.Cells, 100)}
	if s, e := solid.Join(hundred, api.Solid{}); e != api.OK || len(s.Cells) != 100 {
		t.Errorf("100 cells: %d, %d", len(s.Cells), e)
	}
	if s, e := solid.Join(hundred, odd); e != api.ErrLarge || !alike(s, api.Solid{}) {
		t.Errorf("101 cells: %d, %d", len(s.Cells), e)
	}
}

// P1.4: what is left, piece by piece.
func TestMinus(t *testing.T) {
	a, b := cube(t, 0, 2), cube(t, 1, 3)
	want := union(box(t, 0, 0, 0, 1, 2, 2), box(t, 1, 0, 0, 2, 1, 2), box(t, 1, 1, 0, 2, 2, 1))
	if s, e := solid.Minus(a, b); e != api.OK || !alike(s, want) {
		t.Errorf("the third example: %v, %d", s, e)
	}
	inner := union(
		box(t, 0, 0, 0, 1, 9, 9), box(t, 1, 0, 0, 9, 1, 9), box(t, 1, 1, 0, 9, 9, 1),
		box(t, 1, 1, 2, 9, 9, 9), box(t, 1, 2, 1, 9, 9, 2), box(t, 2, 1, 1, 9, 2, 2),
	)
	if s, e := solid.Minus(cube(t, 0, 9), cube(t, 1, 2)); e != api.OK || !alike(s, inner) {
		t.Errorf("a hole: %v, %d", s, e)
	}
	// The pieces of the second cell stand behind those of the first one, and a piece that is split is replaced at its place.
	two := union(box(t, 0, 0, 0, 9, 1, 1), box(t, 0, 5, 0, 9, 6, 1))
	cuts := union(box(t, 4, -1, -1, 5, 9, 9), box(t, 2, -1, -1, 3, 9, 9))
	want = union(
		box(t, 0, 0, 0, 2, 1, 1), box(t, 3, 0, 0, 4, 1, 1), box(t, 5, 0, 0, 9, 1, 1),
		box(t, 0, 5, 0, 2, 6, 1), box(t, 3, 5, 0, 4, 6, 1), box(t, 5, 5, 0, 9, 6, 1),
	)
	if s, e := solid.Minus(two, cuts); e != api.OK || !alike(s, want) {
		t.Errorf("two cells: %v, %d", s, e)
	}
	odd := one(with(cellBox(9), api.Plane{A: 4, D: 20}))
	for name, x := range map[string]struct{ a, b, want api.Solid }{
		"nothing without something":       {api.Solid{}, a, api.Solid{}},
		"something without itself":        {a, a, api.Solid{}},
		"without nothing, in normal form": {odd, api.Solid{}, box(t, -9, -9, -9, 5, 9, 9)},
		"touching, in normal form":        {odd, box(t, 5, 0, 0, 6, 1, 1), box(t, -9, -9, -9, 5, 9, 9)},
	} {
		if s, e := solid.Minus(x.a, x.b); e != api.OK || !alike(s, x.want) {
			t.Errorf("%s: %v, %d", name, s, e)
		}
	}
}

// P1.4: what is too large is so behind some cell, counting the pieces so far.
func TestMinusLarge(t *testing.T) {
	big, all := cube(t, 0, 1000), cube(t, -5, 1005)
	for name, x := range map[string]struct {
		a, b  api.Solid
		cells int
		want  api.Errno
	}{
		"96 pieces":                          {big, holes(t, 19), 96, api.OK},
		"101 pieces":                         {big, holes(t, 20), 0, api.ErrLarge},
		"100 pieces of several cells":        {union(big, aside(t, 4)), holes(t, 19), 100, api.OK},
		"101 pieces of several cells":        {union(big, aside(t, 5)), holes(t, 19), 0, api.ErrLarge},
		"101 pieces, the large one last":     {union(aside(t, 5), big), holes(t, 19), 0, api.ErrLarge},
		"101 pieces that would go":           {big, union(holes(t, 20), all), 0, api.ErrLarge},
		"101 pieces that never come":         {big, union(all, holes(t, 20)), 0, api.OK},
		"96 pieces that go, then five cells": {union(big, aside(t, 5)), union(holes(t, 19), all), 5, api.OK},
		"five cells, then 96 pieces":         {union(aside(t, 5), big), union(holes(t, 19), all), 0, api.ErrLarge},
		"100 cells without nothing":          {aside(t, 100), api.Solid{}, 100, api.OK},
	} {
		s, e := solid.Minus(x.a, x.b)
		if e != x.want || len(s.Cells) != x.cells {
			t.Errorf("%s: %d cells, %d, want %d, %d", name, len(s.Cells), e, x.cells, x.want)
		}
	}
}

// P1.4: a piece with too many planes.
func TestMinusPlanes(t *testing.T) {
	// The tip at (-10, 10, 2) is cut off by a plane, so that what is left has one plane more.
	tip := one(api.Cell{Planes: []api.Plane{{A: 4, B: -4, C: -1, D: -80}, {A: -1, D: 90}, {B: 1, D: 90}, {C: 1, D: 90}, {C: -1, D: 90}}})
	other := []api.Plane{{A: 1, B: 1, D: 17}, {A: 1, B: -1, D: 17}}
	for n, want := range map[int]api.Errno{0: api.OK, 1: api.OK, 2: api.ErrLarge} {
		s, e := solid.Minus(one(with(fourteen(), other[:n]...)), tip)
		if e != want || e == api.OK && (len(s.Cells) != 1 || len(s.Cells[0].Planes) != 15+n) || e != api.OK && !alike(s, api.Solid{}) {
			t.Errorf("%d planes: %v, %d, want %d", 15+n, s, e, want)
		}
	}
	// It is too large also if a later cell takes the piece away.
	sixteen := one(with(fourteen(), other...))
	if _, e := solid.Minus(sixteen, union(tip, one(cellBox(50)))); e != api.ErrLarge {
		t.Errorf("a piece that would go: %d", e)
	}
	if s, e := solid.Minus(sixteen, union(one(cellBox(50)), tip)); e != api.OK || len(s.Cells) != 0 {
		t.Errorf("a piece that never comes: %v, %d", s, e)
	}
}

// P1.4: Meet and Minus of random solids are what the definitions, taken to the letter, make.
func TestPartsLiterally(t *testing.T) {
	s := seed(14)
	large := 0
	for i := range 150 {
		size := []int{2, 5, 100}[i%3]
		a, b := s.solid(s.number(1, 3), size), s.solid(s.number(1, 3), size)
		both, e := solid.Meet(a, b)
		want, f := literalMeet(a, b)
		if e != f || !alike(both, want) {
			t.Fatalf("meet of %v and %v: %v, %d, want %v, %d", a, b, both, e, want, f)
		}
		left, e := solid.Minus(a, b)
		want, f = literalMinus(a, b)
		if e != f || !alike(left, want) {
			t.Fatalf("minus of %v and %v: %v, %d, want %v, %d", a, b, left, e, want, f)
		}
		if e == api.ErrLarge {
			large++
		}
	}
	if large > 75 {
		t.Errorf("%d of 150 are too large", large)
	}
}

func literalMeet(a, b api.Solid) (api.Solid, api.Errno) {
	var s api.Solid
	for _, c := range a.Cells {
		for _, d := range b.Cells {
			_, inside, form := literal(slices.Concat(c.Planes, d.Planes))
			if !inside {
				continue
			}
			if s.Cells = append(s.Cells, api.Cell{Planes: form}); len(form) > 16 || len(s.Cells) > 100 {
				return api.Solid{}, api.ErrLarge
			}
		}
	}
	return s, api.OK
}

func literalMinus(a, b api.Solid) (api.Solid, api.Errno) {
	var all api.Solid
	for _, c := range a.Cells {
		_, _, form := literal(c.Planes)
		pieces := []api.Cell{{Planes: form}}
		for _, d := range b.Cells {
			pieces = literalPieces(pieces, d)
			if len(all.Cells)+len(pieces) > 100 || slices.ContainsFunc(pieces, func(c api.Cell) bool { return len(c.Planes) > 16 }) {
				return api.Solid{}, api.ErrLarge
			}
		}
		all.Cells = append(all.Cells, pieces...)
	}
	return all, api.OK
}

func literalPieces(pieces []api.Cell, d api.Cell) []api.Cell {
	var next []api.Cell
	_, _, form := literal(d.Planes)
	for _, piece := range pieces {
		if _, inside, _ := literal(slices.Concat(piece.Planes, form)); !inside {
			next = append(next, piece)
			continue
		}
		for i, p := range form {
			turned := api.Plane{A: -p.A, B: -p.B, C: -p.C, D: -p.D}
			if _, inside, part := literal(slices.Concat(piece.Planes, form[:i], []api.Plane{turned})); inside {
				next = append(next, api.Cell{Planes: part})
			}
		}
	}
	return next
}

// P1.5: whether something is left.
func TestCovers(t *testing.T) {
	a := union(box(t, 0, 0, 0, 4, 2, 2), box(t, 4, 0, 0, 6, 2, 2))
	for name, x := range map[string]struct {
		a, b api.Solid
		want bool
		e    api.Errno
	}{
		"a part in two cells":        {a, box(t, 3, 0, 0, 5, 2, 1), true, api.OK},
		"all":                        {a, box(t, 0, 0, 0, 6, 2, 2), true, api.OK},
		"too long":                   {a, box(t, 0, 0, 0, 7, 2, 2), false, api.OK},
		"all of another one":         {box(t, 0, 0, 0, 6, 2, 2), a, true, api.OK},
		"a cell, but not the other":  {a, union(cube(t, 0, 1), cube(t, 8, 9)), false, api.OK},
		"nothing":                    {a, api.Solid{}, true, api.OK},
		"nothing by nothing":         {api.Solid{}, api.Solid{}, true, api.OK},
		"something by nothing":       {api.Solid{}, a, false, api.OK},
		"what is left is too large":  {holes(t, 20), cube(t, 0, 1000), false, api.ErrLarge},
		"what is left is large":      {holes(t, 19), cube(t, 0, 1000), false, api.OK},
		"the other way is no matter": {cube(t, 0, 1000), holes(t, 20), true, api.OK},
		"a is wrong":                 {one(api.Cell{}), one(api.Cell{Planes: make([]api.Plane, 17)}), false, api.ErrOpen},
		"b is wrong":                 {a, one(api.Cell{}), false, api.ErrOpen},
	} {
		if is, e := solid.Covers(x.a, x.b); is != x.want || e != x.e {
			t.Errorf("%s: %v, %d, want %v, %d", name, is, e, x.want, x.e)
		}
	}
}

// P1.5: whether two solids have the same points.
func TestSame(t *testing.T) {
	a := union(box(t, 0, 0, 0, 4, 2, 2), box(t, 4, 0, 0, 6, 2, 2))
	long := box(t, 0, 0, 0, 6, 2, 2)
	for name, x := range map[string]struct {
		a, b api.Solid
		want bool
		e    api.Errno
	}{
		"the same":               {a, long, true, api.OK},
		"cells that overlap":     {union(long, cube(t, 0, 2)), a, true, api.OK},
		"more":                   {union(long, cube(t, 0, 3)), a, false, api.OK},
		"less":                   {cube(t, 0, 2), a, false, api.OK},
		"nothing":                {api.Solid{}, api.Solid{}, true, api.OK},
		"nothing and something":  {api.Solid{}, a, false, api.OK},
		"something and nothing":  {a, api.Solid{}, false, api.OK},
		"large on the first way": {holes(t, 20), cube(t, 0, 1000), false, api.ErrLarge},
		"large on the other way": {cube(t, 0, 1000), holes(t, 20), false, api.ErrLarge},
		"large behind a no":      {cube(t, 0, 1000), union(holes(t, 20), aside(t, 1)), false, api.ErrLarge},
		"a is wrong":             {one(api.Cell{}), one(api.Cell{Planes: make([]api.Plane, 17)}), false, api.ErrOpen},
		"b is wrong":             {holes(t, 20), one(api.Cell{}), false, api.ErrOpen},
	} {
		if is, e := solid.Same(x.a, x.b); is != x.want || e != x.e {
			t.Errorf("%s: %v, %d, want %v, %d", name, is, e, x.want, x.e)
		}
	}
}
