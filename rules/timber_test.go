package rules_test

import (
	"testing"

	"spokeshave/api"
	"spokeshave/timber"
)

// timberGiven is arguments for every function of package timber.
type timberGiven struct {
	Species             []api.Species
	Stock               []api.Board
	Board               api.Board
	Kind                api.Species
	Name, Text          string
	Cut, Axis           int
	Size, Rate, Length  int
	Range               api.Interval
	Moisture, Target    int
	DryRate, Days, Near int
	Humidity            int
	Rect                api.Rect
	Grades              []api.Grade
	Table               []api.Knot
	Want                api.Blank
}

func TestTimber(t *testing.T) {
	all := functions[timberGiven]{
		"Equilibrium": func(g timberGiven) []any { x, e := timber.Equilibrium(g.Table, g.Humidity); return results(x, e) },
		"Dry": func(g timberGiven) []any {
			x, e := timber.Dry(g.Moisture, g.Target, g.DryRate, g.Days)
			return results(x, e)
		},
		"DaysTo": func(g timberGiven) []any {
			x, e := timber.DaysTo(g.Moisture, g.Target, g.DryRate, g.Near)
			return results(x, e)
		},
		"Fitting": func(g timberGiven) []any {
			x, e := timber.Fitting(g.Species, g.Stock, g.Want)
			return results(x, e)
		},
		"Print": func(g timberGiven) []any { x, e := timber.Print(g.Species, g.Stock); return results(x, e) },
		"Parse": func(g timberGiven) []any {
			l, stock, line, e := timber.Parse(g.Text)
			if e == api.ErrSyntax {
				line = 0 // the chapter says what stands there
			}
			return results(l, stock, line, e)
		},
	}
	addSpecies(all)
	addBoards(all)
	checkRules(t, all, goodTimber(t))
}

func addSpecies(all functions[timberGiven]) {
	all["CheckSpecies"] = func(g timberGiven) []any { return results(timber.CheckSpecies(g.Species)) }
	all["Find"] = func(g timberGiven) []any { x, e := timber.Find(g.Species, g.Name); return results(x, e) }
	all["Rate"] = func(g timberGiven) []any { x, e := timber.Rate(g.Kind, g.Cut, g.Axis); return results(x, e) }
	all["Exact"] = func(g timberGiven) []any { x, e := timber.Exact(g.Size, g.Rate, g.Range); return results(x, e) }
	all["At"] = func(g timberGiven) []any { x, e := timber.At(g.Size, g.Rate, g.Range); return results(x, e) }
	all["Over"] = func(g timberGiven) []any {
		x, e := timber.Over(g.Size, g.Rate, g.Moisture, g.Range)
		return results(x, e)
	}
}

func addBoards(all functions[timberGiven]) {
	all["CheckBoard"] = func(g timberGiven) []any { return results(timber.CheckBoard(g.Species, g.Board)) }
	all["CheckStock"] = func(g timberGiven) []any { return results(timber.CheckStock(g.Species, g.Stock)) }
	all["Sizes"] = func(g timberGiven) []any {
		x, e := timber.Sizes(g.Species, g.Board, g.Moisture)
		return results(x, e)
	}
	all["Area"] = func(g timberGiven) []any { x, e := timber.Area(g.Board); return results(x, e) }
	all["Defective"] = func(g timberGiven) []any { x, e := timber.Defective(g.Board); return results(x, e) }
	all["Sound"] = func(g timberGiven) []any { x, e := timber.Sound(g.Board, g.Rect); return results(x, e) }
	all["Clear"] = func(g timberGiven) []any { x, e := timber.Clear(g.Board); return results(x, e) }
	all["Widest"] = func(g timberGiven) []any { x, e := timber.Widest(g.Board, g.Length); return results(x, e) }
	all["GradeOf"] = func(g timberGiven) []any { x, e := timber.GradeOf(g.Board, g.Grades); return results(x, e) }
	all["Mass"] = func(g timberGiven) []any { x, e := timber.Mass(g.Species, g.Board); return results(x, e) }
}

func goodTimber(t *testing.T) timberGiven {
	t.Helper()
	oak := api.Species{Name: "oak", Along: 1, Across: 300, Radial: 150, Density: 700, Stiffness: 12000, Strength: 90}
	ash := api.Species{Name: "ash", Along: 2, Across: 250, Radial: 160, Density: 680, Stiffness: 13000, Strength: 100}
	one := api.Board{
		Name: "one", Species: "oak", Length: 100, Width: 40, Thick: 20, Moisture: 80,
		Defects: []api.Rect{{X1: 60, Y1: 30, X2: 70, Y2: 40}, {X1: 10, Y1: 0, X2: 20, Y2: 15}},
	}
	two := api.Board{Name: "two", Species: "ash", Length: 300, Width: 50, Thick: 25, Cut: 1, Moisture: 100}
	three := api.Board{Name: "three", Species: "oak", Length: 90, Width: 60, Thick: 20, Defects: []api.Rect{{X1: 5, Y1: 5, X2: 6, Y2: 6}}}
	g := timberGiven{
		Species: []api.Species{oak, ash}, Stock: []api.Board{two, one, three}, Board: one, Kind: oak, Name: "ash",
		Cut: 1, Axis: 2, Size: 10000, Rate: 300, Length: 40, Range: api.Interval{Lo: 60, Hi: 120},
		Moisture: 200, Target: 100, DryRate: 10, Days: 3, Near: 80, Humidity: 600,
		Rect:   api.Rect{X1: 20, X2: 60, Y2: 40},
		Grades: []api.Grade{{Name: "clear"}, {Name: "second", Most: 2, Share: 100, Clear: 30}},
		Table:  []api.Knot{{}, {At: 500, Value: 90}, {At: 1000, Value: 280}},
		Want:   api.Blank{Name: "leg", Species: "oak", Length: 40, Width: 30, Thick: 20, Count: 4},
	}
	text, e := timber.Print(g.Species, g.Stock)
	if e != api.OK {
		t.Fatalf("print: %d", e)
	}
	g.Text = text
	return g
}
