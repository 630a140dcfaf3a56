package rules_test

import (
	"testing"

	"spokeshave/api"
	"spokeshave/assembly"
)

// assemblyGiven is arguments for every function of package assembly.
type assemblyGiven struct {
	Parts, Closed []api.Solid
	P, Q          api.Solid
	Way           api.Way
	Set           []int
	Part          int
	Plan          []api.Split
	Locked        api.Locked
	By            [3]int
	Text          string
}

func TestAssembly(t *testing.T) {
	all := functions[assemblyGiven]{
		"Ways":     func(g assemblyGiven) []any { return results(assembly.Ways(), api.OK) },
		"Opposite": func(g assemblyGiven) []any { x, e := assembly.Opposite(g.Way); return results(x, e) },
		"Blocked":  func(g assemblyGiven) []any { x, e := assembly.Blocked(g.P, g.Q, g.Way); return results(x, e) },
		"Print":    func(g assemblyGiven) []any { x, e := assembly.Print(g.Plan); return results(x, e) },
		"Parse":    func(g assemblyGiven) []any { x, e := assembly.Parse(g.Text); return results(x, e) },
	}
	addParts(all)
	addPlans(all)
	checkRules(t, all, goodAssembly(t))
}

// addParts adds the functions that tell what moves.
func addParts(all functions[assemblyGiven]) {
	all["Check"] = func(g assemblyGiven) []any { return results(assembly.Check(g.Parts)) }
	all["Graph"] = func(g assemblyGiven) []any { x, e := assembly.Graph(g.Parts, g.Way); return results(x, e) }
	all["Moves"] = func(g assemblyGiven) []any { x, e := assembly.Moves(g.Parts, g.Set, g.Way); return results(x, e) }
	all["Carried"] = func(g assemblyGiven) []any { x, e := assembly.Carried(g.Parts, g.Part, g.Way); return results(x, e) }
	all["Free"] = func(g assemblyGiven) []any { x, e := assembly.Free(g.Parts); return results(x, e) }
	all["Clusters"] = func(g assemblyGiven) []any { x, e := assembly.Clusters(g.Parts, g.Way); return results(x, e) }
	all["At"] = func(g assemblyGiven) []any { x, e := assembly.At(g.Parts, g.Set, g.By); return results(x, e) }
}

// addPlans adds the functions with plans and locked clusters.
func addPlans(all functions[assemblyGiven]) {
	all["First"] = func(g assemblyGiven) []any { x, is, e := assembly.First(g.Parts, g.Set); return results(x, is, e) }
	all["Plan"] = func(g assemblyGiven) []any { x, c, e := assembly.Plan(g.Parts); return results(x, c, e) }
	all["Plan, locked"] = func(g assemblyGiven) []any {
		x, c, e := assembly.Plan(g.Closed)
		if e == api.ErrLocked {
			e = api.OK // the chapter says what stands there
		}
		return results(x, c, e)
	}
	all["CheckPlan"] = func(g assemblyGiven) []any { return results(assembly.CheckPlan(g.Parts, g.Plan)) }
	all["CheckLocked"] = func(g assemblyGiven) []any { return results(assembly.CheckLocked(g.Closed, g.Locked)) }
	all["Single"] = func(g assemblyGiven) []any { x, e := assembly.Single(g.Parts); return results(x, e) }
	all["Depth"] = func(g assemblyGiven) []any { x, e := assembly.Depth(g.Parts, g.Part); return results(x, e) }
	all["Manual"] = func(g assemblyGiven) []any { x, e := assembly.Manual(g.Parts, g.Plan); return results(x, e) }
}

func goodAssembly(t *testing.T) assemblyGiven {
	t.Helper()
	low := joined(t, api.Box{X2: 4, Y2: 4, Z2: 2}, api.Box{X2: 1, Y2: 4, Z1: 2, Z2: 4})
	bar := joined(t, api.Box{X1: 1, X2: 3, Y2: 4, Z1: 2, Z2: 4})
	high := joined(t, api.Box{X2: 4, Y2: 4, Z1: 4, Z2: 5}, api.Box{X1: 3, X2: 4, Y2: 4, Z1: 2, Z2: 4})
	ring := joined(t, api.Box{X1: -2, X2: 0, Y2: 9, Z2: 9}, api.Box{X1: 4, X2: 6, Y2: 9, Z2: 9})
	shell := joined(
		t, api.Box{X2: 1, Y2: 3, Z2: 3}, api.Box{X1: 2, X2: 3, Y2: 3, Z2: 3}, api.Box{X1: 1, X2: 2, Y2: 1, Z2: 3},
		api.Box{X1: 1, X2: 2, Y1: 2, Y2: 3, Z2: 3}, api.Box{X1: 1, X2: 2, Y1: 1, Y2: 2, Z2: 1}, api.Box{X1: 1, X2: 2, Y1: 1, Y2: 2, Z1: 2, Z2: 3},
	)
	g := assemblyGiven{
		Parts: []api.Solid{low, bar, high, ring}, Closed: []api.Solid{shell, joined(t, api.Box{X1: 1, Y1: 1, Z1: 1, X2: 2, Y2: 2, Z2: 2})},
		P: low, Q: ring, Way: api.Way{Y: 1}, Set: []int{1, 2}, Part: 2, By: [3]int{0, 7, 0},
	}
	var e api.Errno
	if g.Plan, _, e = assembly.Plan(g.Parts); e != api.OK {
		t.Fatalf("plan: %d", e)
	}
	if _, g.Locked, e = assembly.Plan(g.Closed); e != api.ErrLocked {
		t.Fatalf("locked: %d", e)
	}
	if g.Text, e = assembly.Print(g.Plan); e != api.OK {
		t.Fatalf("print: %d", e)
	}
	return g
}
