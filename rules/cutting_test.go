package rules_test

import (
	"testing"

	"spokeshave/api"
	"spokeshave/cutting"
)

// cuttingGiven is arguments for every function of package cutting.
type cuttingGiven struct {
	Board       api.Board
	Trim        api.Trim
	Layout      api.Layout
	Blanks      []api.Blank
	Job         api.Job
	Plan        []api.Layout
	Least, K    [2]int
	Number      int
	Num, Den    int
	Cross       api.Cross
	Lists       [][]int
	Flitch      []int
	From, Faces int
	Veneer      api.Veneer
	Printed     []api.Layout
	Text        string
}

func TestCutting(t *testing.T) {
	all := functions[cuttingGiven]{
		"Crosscut":      func(g cuttingGiven) []any { l, e := cutting.Crosscut(g.Cross); return results(l, e) },
		"CheckCrosscut": func(g cuttingGiven) []any { n, e := cutting.CheckCrosscut(g.Cross, g.Lists); return results(n, e) },
		"LeastBars":     func(g cuttingGiven) []any { n, e := cutting.LeastBars(g.Cross); return results(n, e) },
		"Leaves":        func(g cuttingGiven) []any { n, e := cutting.Leaves(g.Flitch, g.Faces); return results(n, e) },
		"Match":         func(g cuttingGiven) []any { v, e := cutting.Match(g.Flitch, g.From, g.Faces); return results(v, e) },
		"CheckMatch":    func(g cuttingGiven) []any { return results(cutting.CheckMatch(g.Flitch, g.Veneer)) },
		"Print":         func(g cuttingGiven) []any { s, e := cutting.Print(g.Printed); return results(s, e) },
		"Parse": func(g cuttingGiven) []any {
			l, line, e := cutting.Parse(g.Text)
			if e == api.ErrSyntax {
				line = 0 // the chapter says what stands there
			}
			return results(l, line, e)
		},
	}
	addJobs(all)
	addCuttingPlans(all)
	addBounds(all)
	checkRules(t, all, goodCutting(t))
}

func addJobs(all functions[cuttingGiven]) {
	all["CheckBlanks"] = func(g cuttingGiven) []any { return results(cutting.CheckBlanks(g.Blanks)) }
	all["CheckTrim"] = func(g cuttingGiven) []any { return results(cutting.CheckTrim(g.Trim)) }
	all["CheckJob"] = func(g cuttingGiven) []any { return results(cutting.CheckJob(g.Job)) }
	all["Usable"] = func(g cuttingGiven) []any { r, e := cutting.Usable(g.Board, g.Trim); return results(r, e) }
	all["CheckLayout"] = func(g cuttingGiven) []any {
		return results(cutting.CheckLayout(g.Board, g.Trim, g.Layout))
	}
	all["Regions"] = func(g cuttingGiven) []any {
		l, e := cutting.Regions(g.Board, g.Trim, g.Layout)
		return results(l, e)
	}
}

func addCuttingPlans(all functions[cuttingGiven]) {
	all["CheckPlan"] = func(g cuttingGiven) []any {
		p, e := cutting.CheckPlan(g.Job, g.Plan)
		switch e {
		case api.ErrMissing, api.ErrKind, api.ErrShape, api.ErrDefect:
			p = api.Placed{} // the chapter says what stands there
		}
		return results(p, e)
	}
	all["Places"] = func(g cuttingGiven) []any { l, e := cutting.Places(g.Job, g.Plan); return results(l, e) }
	all["AreasOf"] = func(g cuttingGiven) []any { a, e := cutting.AreasOf(g.Job, g.Plan); return results(a, e) }
	all["Offcuts"] = func(g cuttingGiven) []any {
		l, e := cutting.Offcuts(g.Job, g.Plan, g.Least)
		return results(l, e)
	}
	all["Greedy"] = func(g cuttingGiven) []any { l, e := cutting.Greedy(g.Job); return results(l, e) }
	all["Choose"] = func(g cuttingGiven) []any { l, e := cutting.Choose(g.Job); return results(l, e) }
}

func addBounds(all functions[cuttingGiven]) {
	all["AreaBound"] = func(g cuttingGiven) []any { n, e := cutting.AreaBound(g.Job); return results(n, e) }
	all["Weight"] = func(g cuttingGiven) []any { f, e := cutting.Weight(g.Number, g.Num, g.Den); return results(f, e) }
	all["Weights"] = func(g cuttingGiven) []any { l, e := cutting.Weights(g.Job, g.K); return results(l, e) }
	all["Bound"] = func(g cuttingGiven) []any { n, e := cutting.Bound(g.Job, g.K); return results(n, e) }
	all["BestBound"] = func(g cuttingGiven) []any { n, k, e := cutting.BestBound(g.Job); return results(n, k, e) }
}

func goodCutting(t *testing.T) cuttingGiven {
	t.Helper()
	board := func(name, species string, defects ...api.Rect) api.Board {
		return api.Board{Name: name, Species: species, Length: 100, Width: 40, Thick: 20, Moisture: 80, Defects: defects}
	}
	knot := api.Rect{X1: 90, Y1: 30, X2: 95, Y2: 36}
	j := api.Job{
		Stock: []api.Board{board("one", "oak", knot, api.Rect{X2: 4, Y2: 3}), board("two", "ash", knot), board("three", "oak")},
		Blanks: []api.Blank{
			{Name: "p", Species: "oak", Length: 30, Width: 20, Thick: 20, Count: 5},
			{Name: "q", Species: "ash", Length: 60, Width: 15, Thick: 10, Count: 2},
		},
		Trim: api.Trim{Kerf: 2, Ends: 1, Sides: 1},
	}
	plan, e := cutting.Greedy(j)
	if e != api.OK {
		t.Fatalf("Greedy: %d", e)
	}
	text, e := cutting.Print(plan)
	if e != api.OK {
		t.Fatalf("Print: %d", e)
	}
	return cuttingGiven{
		Board: j.Stock[0], Trim: j.Trim, Layout: plan[0], Blanks: j.Blanks, Job: j, Plan: plan,
		Least: [2]int{3, 2}, K: [2]int{1, 2}, Number: 3, Num: 5, Den: 8,
		Cross: api.Cross{Stock: []int{90, 100, 100}, Lengths: []int{50, 50, 49}, Kerf: 1}, Lists: [][]int{{}, {0, 2}, {1}},
		Flitch: []int{3, 4, 6, 7, 8}, From: 2, Faces: 3,
		Veneer:  api.Veneer{Leaves: []int{6, 7, 8}, Flip: []bool{false, true, false}},
		Printed: plan, Text: text,
	}
}
