package assembly_test

import (
	"testing"

	"spokeshave/api"
	"spokeshave/assembly"
)

// P4.1: the ways, by X, then Y, then Z.
func TestWays(t *testing.T) {
	l := assembly.Ways()
	if !alike(l, allWays()) {
		t.Errorf("%v", l)
	}
	if len(l) != 26 || l[0] != (api.Way{X: -1, Y: -1, Z: -1}) || l[12] != (api.Way{Z: -1}) || l[13] != (api.Way{Z: 1}) {
		t.Errorf("%v", l)
	}
	l[0] = api.Way{}
	if !alike(assembly.Ways(), allWays()) {
		t.Error("a caller has changed the ways")
	}
}

// P4.1: opposite ways.
func TestOpposite(t *testing.T) {
	for i, w := range allWays() {
		if o, e := assembly.Opposite(w); o != reversed(w) || o != allWays()[25-i] || e != api.OK {
			t.Errorf("%v: %v, %d", w, o, e)
		}
	}
	for want, l := range wrongWays() {
		for _, w := range l {
			if o, e := assembly.Opposite(w); o != (api.Way{}) || e != want {
				t.Errorf("%v: %v, %d, want %d", w, o, e, want)
			}
		}
	}
}

// P4.1: parts, and which of several errors comes first.
func TestCheck(t *testing.T) {
	inside := union(box(t, 0, 0, 0, 4, 4, 4), box(t, 1, 1, 1, 6, 2, 2))
	for name, l := range map[string][]api.Solid{
		"none":                          nil,
		"one":                           {box(t, 0, 0, 0, 1, 1, 1)},
		"its own cells overlap":         {inside},
		"touching":                      pair(t),
		"touching on an edge":           {box(t, 0, 0, 0, 1, 1, 1), box(t, 1, 1, 0, 2, 2, 1)},
		"twelve":                        row(t, 12),
		"a hundred cells":               {dealt(steadily(1), hundred(t), 1)[0]},
		"one inside of the other's gap": shell(t),
	} {
		if e := assembly.Check(l); e != api.OK {
			t.Errorf("%s: %d", name, e)
		}
	}
	for want, lists := range wrongParts(t) {
		for _, l := range lists {
			if e := assembly.Check(l); e != want {
				t.Errorf("%v: %d, want %d", l, e, want)
			}
		}
	}
}

// hundred returns as many cells as a solid may have.
func hundred(t *testing.T) []api.Cell {
	t.Helper()
	var cells []api.Cell
	for i := range api.MaxCells {
		cells = append(cells, box(t, i, 0, 0, i+1, 1, 1).Cells...)
	}
	return cells
}

// P4.1 to P4.7: functions with parts first return the error of Check, ahead of those of all other arguments.
func TestCheckComesFirst(t *testing.T) {
	bad, badWay := []int{5, 3}, api.Way{X: 2}
	for want, lists := range wrongParts(t) {
		for _, l := range lists {
			all := map[string]api.Errno{"CheckPlan": assembly.CheckPlan(l, nil), "CheckLocked": assembly.CheckLocked(l, api.Locked{})}
			_, all["Graph"] = assembly.Graph(l, badWay)
			_, all["Moves"] = assembly.Moves(l, bad, badWay)
			_, all["Carried"] = assembly.Carried(l, -1, badWay)
			_, all["Free"] = assembly.Free(l)
			_, _, all["First"] = assembly.First(l, bad)
			_, _, all["Plan"] = assembly.Plan(l)
			_, all["Clusters"] = assembly.Clusters(l, badWay)
			_, all["Single"] = assembly.Single(l)
			_, all["Depth"] = assembly.Depth(l, -1)
			_, all["At"] = assembly.At(l, bad, [3]int{1 << 62})
			_, all["Manual"] = assembly.Manual(l, nil)
			for name, e := range all {
				if e != want {
					t.Errorf("%s of %v: %d, want %d", name, l, e, want)
				}
			}
		}
	}
}
