package rules_test

import (
	"testing"

	"spokeshave/api"
	"spokeshave/solid"
)

// solidGiven is arguments for every function of package solid.
type solidGiven struct {
	A, B    api.Solid
	Cell    api.Cell
	Plane   api.Plane
	Corner  api.Corner
	Overlap api.Overlap
	Box     api.Box
	List    []api.Point
	Ends    [2]int
	Vector  [3]int
	N, M    int
	Text    string
}

func TestSolid(t *testing.T) {
	checkRules(t, functions[solidGiven]{
		"CheckPlane":   func(g solidGiven) []any { return results(solid.CheckPlane(g.Plane)) },
		"CheckCell":    func(g solidGiven) []any { return results(solid.CheckCell(g.Cell)) },
		"Check":        func(g solidGiven) []any { return results(solid.Check(g.A)) },
		"Normal":       func(g solidGiven) []any { x, e := solid.Normal(g.Cell); return results(x, e) },
		"Corners":      func(g solidGiven) []any { x, e := solid.Corners(g.Cell); return results(x, e) },
		"Side":         func(g solidGiven) []any { x, e := solid.Side(g.Plane, g.Corner); return results(x, e) },
		"Where":        func(g solidGiven) []any { x, e := solid.Where(g.A, g.Corner); return results(x, e) },
		"OfBox":        func(g solidGiven) []any { x, e := solid.OfBox(g.Box); return results(x, e) },
		"Prism":        func(g solidGiven) []any { x, e := solid.Prism(g.N, g.List, g.Ends); return results(x, e) },
		"Bounds":       func(g solidGiven) []any { x, e := solid.Bounds(g.A); return results(x, e) },
		"Meet":         func(g solidGiven) []any { x, e := solid.Meet(g.A, g.B); return results(x, e) },
		"Join":         func(g solidGiven) []any { x, e := solid.Join(g.A, g.B); return results(x, e) },
		"Minus":        func(g solidGiven) []any { x, e := solid.Minus(g.A, g.B); return results(x, e) },
		"Clashes":      func(g solidGiven) []any { x, is, e := solid.Clashes(g.A, g.B); return results(x, is, e) },
		"CheckOverlap": func(g solidGiven) []any { return results(solid.CheckOverlap(g.A, g.B, g.Overlap)) },
		"Covers":       func(g solidGiven) []any { x, e := solid.Covers(g.A, g.B); return results(x, e) },
		"Same":         func(g solidGiven) []any { x, e := solid.Same(g.A, g.B); return results(x, e) },
		"Touches":      func(g solidGiven) []any { x, e := solid.Touches(g.A, g.B); return results(x, e) },
		"Volume":       func(g solidGiven) []any { x, e := solid.Volume(g.A); return results(x, e) },
		"Move":         func(g solidGiven) []any { x, e := solid.Move(g.A, g.Vector); return results(x, e) },
		"Turn":         func(g solidGiven) []any { x, e := solid.Turn(g.A, g.N); return results(x, e) },
		"Turned":       func(g solidGiven) []any { x, e := solid.Turned(g.Vector, g.N); return results(x, e) },
		"Both":         func(g solidGiven) []any { x, e := solid.Both(g.N, g.M); return results(x, e) },
		"Print":        func(g solidGiven) []any { x, e := solid.Print(g.A); return results(x, e) },
		"Parse": func(g solidGiven) []any {
			x, line, e := solid.Parse(g.Text)
			if e == api.ErrSyntax {
				line = 0 // the chapter says what stands there
			}
			return results(x, line, e)
		},
	}, goodSolid(t))
}

func goodSolid(t *testing.T) solidGiven {
	t.Helper()
	a := joined(t, api.Box{X2: 4, Y2: 4, Z2: 4}, api.Box{X1: 2, Y1: 2, Z1: 2, X2: 6, Y2: 6, Z2: 6}, api.Box{X1: -2, Y2: 3, Z2: 3})
	b := joined(t, api.Box{X1: 4, X2: 6, Y2: 2, Z2: 2}, api.Box{X1: 3, Y1: 3, Z1: 3, X2: 5, Y2: 5, Z2: 5}, api.Box{X1: 6, Y1: 6, Z1: 6, X2: 8, Y2: 8, Z2: 8})
	slanted := api.Cell{Planes: append(joined(t, api.Box{X2: 3, Y2: 3, Z2: 3}).Cells[0].Planes, api.Plane{A: 2, D: 2}, api.Plane{A: 1, B: 1, C: 1, D: 4})}
	b.Cells = append(b.Cells, slanted)
	o, is, e := solid.Clashes(a, b)
	if !is || e != api.OK {
		t.Fatalf("clashes: %v, %d", is, e)
	}
	text, _ := solid.Print(b)
	return solidGiven{
		A: a, B: b, Cell: slanted, Plane: api.Plane{A: 1, B: 2, D: 3}, Corner: api.Corner{X: 1, Den: 2},
		Overlap: o, Box: api.Box{X2: 1, Y2: 2, Z2: 3}, List: []api.Point{{X: 0, Y: 0}, {X: 4, Y: 0}, {X: 5, Y: 2}, {X: 2, Y: 6}}, Ends: [2]int{0, 5},
		Vector: [3]int{1, -2, 3}, N: 2, M: 30, Text: text,
	}
}

// joined returns the solid of some boxes.
func joined(t *testing.T, boxes ...api.Box) api.Solid {
	t.Helper()
	var s api.Solid
	for _, b := range boxes {
		one, e := solid.OfBox(b)
		if e != api.OK {
			t.Fatalf("%v: %d", b, e)
		}
		s.Cells = append(s.Cells, one.Cells...)
	}
	return s
}
