package rules_test

import (
	"testing"

	"spokeshave/api"
	"spokeshave/design"
)

// designGiven is arguments for every function of package design.
type designGiven struct {
	Design, Faulty     api.Design
	Before             api.Compiled
	Expr               api.Expr
	Names              []string
	Values             []int
	Text, ExprText     string
	Param, Part, Piece string
	Group              string
	Value, Tie, Space  int
	Fault              api.Fault
}

func TestDesign(t *testing.T) {
	all := functions[designGiven]{
		"ParseExpr": func(g designGiven) []any { x, e := design.ParseExpr(g.ExprText); return results(x, e) },
		"PrintExpr": func(g designGiven) []any { x, e := design.PrintExpr(g.Expr); return results(x, e) },
		"Names":     func(g designGiven) []any { x, e := design.Names(g.Expr); return results(x, e) },
		"Eval":      func(g designGiven) []any { x, e := design.Eval(g.Expr, g.Names, g.Values); return results(x, e) },
		"Parse": func(g designGiven) []any {
			x, line, e := design.Parse(g.Text)
			if e == api.ErrSyntax {
				line = 0 // the chapter says what stands there
			}
			return results(x, line, e)
		},
		"Update": func(g designGiven) []any { x, l, e := design.Update(g.Before, g.Design); return results(x, l, e) },
	}
	addTexts(all)
	addMade(all)
	checkRules(t, all, goodDesign(t))
}

// addTexts adds the functions that look at a design without its values, or only at these.
func addTexts(all functions[designGiven]) {
	all["Check"] = func(g designGiven) []any { return results(design.Check(g.Design)) }
	all["Print"] = func(g designGiven) []any { x, e := design.Print(g.Design); return results(x, e) }
	all["Values"] = func(g designGiven) []any { x, e := design.Values(g.Design); return results(x, e) }
	all["Set"] = func(g designGiven) []any { x, e := design.Set(g.Design, g.Param, g.Value); return results(x, e) }
	all["Resolve"] = func(g designGiven) []any { return results(design.Resolve(g.Design)) }
	all["Members"] = func(g designGiven) []any { x, e := design.Members(g.Design, g.Group); return results(x, e) }
	all["Uses"] = func(g designGiven) []any { x, e := design.Uses(g.Design, g.Part); return results(x, e) }
	all["Dependents"] = func(g designGiven) []any { x, e := design.Dependents(g.Design, g.Param); return results(x, e) }
}

// addMade adds the functions that make pieces.
func addMade(all functions[designGiven]) {
	all["Pieces"] = func(g designGiven) []any { x, e := design.Pieces(g.Design); return results(x, e) }
	all["Blank"] = func(g designGiven) []any { x, e := design.Blank(g.Design, g.Piece); return results(x, e) }
	all["Tie"] = func(g designGiven) []any { j, at, e := design.Tie(g.Design, g.Tie); return results(j, at, e) }
	all["Solid"] = func(g designGiven) []any { x, e := design.Solid(g.Design, g.Part); return results(x, e) }
	all["Solids"] = func(g designGiven) []any { x, e := design.Solids(g.Design); return results(x, e) }
	all["Rest"] = func(g designGiven) []any { x, e := design.Rest(g.Faulty, g.Space); return results(x, e) }
	all["Faults"] = func(g designGiven) []any { x, e := design.Faults(g.Faulty); return results(x, e) }
	all["CheckFault"] = func(g designGiven) []any { return results(design.CheckFault(g.Faulty, g.Fault)) }
	all["Accept"] = func(g designGiven) []any { return results(design.Accept(g.Design)) }
	all["CuttingList"] = func(g designGiven) []any { x, e := design.CuttingList(g.Design); return results(x, e) }
	all["Compile"] = func(g designGiven) []any { x, e := design.Compile(g.Design); return results(x, e) }
}

func goodDesign(t *testing.T) designGiven {
	t.Helper()
	text := `design bench
param w = 60
param h = w / 2
part a oak 0 at h, 0, 0 size 100, 40, h
part b oak 0 at -100, 0, 0 size 100 + h, 40, h
part top ash 1 at 0, 0, h size w, 40, 10
part cleat ash 0 at 0, 0, -30 size 40, h, h
part block ash 0 at 0, 50, -30 size 40, 40, h
tie lap a b turn 0 at 0, 0, 0 size w, 40, h with h / 2
tie spline cleat block turn 0 at 0, 0, -30 size 40, 40, h with 40, 5, 6, 10, 20
fill -100, 0, 0 size 200, 40, h
clear 0, 0, 40 size w, 40, 5
group legs a b
`
	d, line, e := design.Parse(text)
	if e != api.OK {
		t.Fatalf("line %d: %d", line, e)
	}
	faulty, _, e := design.Parse("design faulty\npart a oak 0 at 0, 0, 0 size 9, 9, 9\npart b oak 0 at 5, 5, 5 size 9, 9, 9\nfill 0, 0, 0 size 20, 9, 9\nclear 1, 1, 1 size 9, 9, 9\n")
	if e != api.OK {
		t.Fatalf("faulty: %d", e)
	}
	faults, e := design.Faults(faulty)
	if e != api.OK || len(faults) != 4 {
		t.Fatalf("faults: %v, %d", faults, e)
	}
	before, e := design.Set(d, "w", 61) // h is the same, so that some pieces are taken over
	if e != api.OK {
		t.Fatalf("set: %d", e)
	}
	compiled, e := design.Compile(before)
	if e != api.OK {
		t.Fatalf("compile: %d", e)
	}
	if _, made, e := design.Update(compiled, d); e != api.OK || len(made) != 3 {
		t.Fatalf("made anew: %v, %d", made, e)
	}
	g := designGiven{
		Design: d, Faulty: faulty, Before: compiled, Names: []string{"x", "w"}, Values: []int{3, 4}, Text: text, ExprText: "min(3, w) * (2 + t) - -1",
		Param: "w", Part: "a", Piece: "j1-0", Group: "legs", Value: 70, Fault: faults[1],
	}
	if g.Expr, e = design.ParseExpr("-max(x, 2 * (w - 1)) / 3"); e != api.OK {
		t.Fatalf("expression: %d", e)
	}
	return g
}
