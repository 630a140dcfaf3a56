package rules_test

import (
	"testing"

	"spokeshave/api"
	"spokeshave/structure"
)

// structureGiven is arguments for every function of package structure.
type structureGiven struct {
	Beam                 api.Beam
	Burden, Low, High    api.Burden
	Wood                 api.Wood
	At, Stiffness, Ratio int
	Permille, PerMetre   int
	Bays                 []api.Bay
	Bay, Newtons, Limit  int
	Cabinet              api.Cabinet
	Open                 []int
	Most, Height         int
	Area                 [3]int
	Axis, Shear, Pull    int
	Grams, Width, Apart  int
}

func TestStructure(t *testing.T) {
	all := functions[structureGiven]{
		"CheckBays":    func(g structureGiven) []any { return results(structure.CheckBays(g.Bays)) },
		"CheckCabinet": func(g structureGiven) []any { return results(structure.CheckCabinet(g.Cabinet)) },
		"Drift":        func(g structureGiven) []any { x, e := structure.Drift(g.Bays, g.Newtons); return results(x, e) },
		"LeastPanel": func(g structureGiven) []any {
			n, e := structure.LeastPanel(g.Bays, g.Bay, g.Newtons, g.Limit)
			return results(n, e)
		},
		"Balance": func(g structureGiven) []any { n, e := structure.Balance(g.Cabinet, g.Open); return results(n, e) },
		"Worst":   func(g structureGiven) []any { l, n, e := structure.Worst(g.Cabinet, g.Most); return results(l, n, e) },
		"Anchor": func(g structureGiven) []any {
			n, e := structure.Anchor(g.Cabinet, g.Most, g.Height)
			return results(n, e)
		},
		"Carries": func(g structureGiven) []any {
			n, e := structure.Carries(g.Area, g.Axis, g.Shear, g.Pull)
			return results(n, e)
		},
		"Hinge": func(g structureGiven) []any { x, e := structure.Hinge(g.Grams, g.Width, g.Apart); return results(x, e) },
	}
	addForces(all)
	addSags(all)
	checkRules(t, all, goodStructure())
}

// addForces adds the functions of forces, moments and burdens.
func addForces(all functions[structureGiven]) {
	all["CheckBeam"] = func(g structureGiven) []any { return results(structure.CheckBeam(g.Beam)) }
	all["CheckBurden"] = func(g structureGiven) []any { return results(structure.CheckBurden(g.Beam, g.Burden)) }
	all["Reactions"] = func(g structureGiven) []any {
		x, y, z, e := structure.Reactions(g.Beam, g.Burden)
		return results(x, y, z, e)
	}
	all["Shear"] = func(g structureGiven) []any {
		x, e := structure.Shear(g.Beam, g.Burden, g.At)
		return results(x, e)
	}
	all["Moment"] = func(g structureGiven) []any {
		x, e := structure.Moment(g.Beam, g.Burden, g.At)
		return results(x, e)
	}
	all["GreatestMoment"] = func(g structureGiven) []any {
		n, x, e := structure.GreatestMoment(g.Beam, g.Burden)
		return results(n, x, e)
	}
	all["Stress"] = func(g structureGiven) []any { x, e := structure.Stress(g.Beam, g.Burden); return results(x, e) }
	all["Heavier"] = func(g structureGiven) []any { x, e := structure.Heavier(g.Burden, g.Permille); return results(x, e) }
	all["MomentRange"] = func(g structureGiven) []any {
		x, y, e := structure.MomentRange(g.Beam, g.Low, g.High, g.At)
		return results(x, y, e)
	}
}

// addSags adds the functions of sags, wood, and what holds.
func addSags(all functions[structureGiven]) {
	all["Sag"] = func(g structureGiven) []any {
		x, e := structure.Sag(g.Beam, g.Stiffness, g.Burden, g.At)
		return results(x, e)
	}
	all["GreatestSag"] = func(g structureGiven) []any {
		n, x, e := structure.GreatestSag(g.Beam, g.Stiffness, g.Burden)
		return results(n, x, e)
	}
	all["SagRange"] = func(g structureGiven) []any {
		x, y, e := structure.SagRange(g.Beam, g.Wood, g.Burden, g.At)
		return results(x, y, e)
	}
	all["CheckWood"] = func(g structureGiven) []any { return results(structure.CheckWood(g.Wood)) }
	all["Holds"] = func(g structureGiven) []any {
		return results(structure.Holds(g.Beam, g.Wood, g.Burden, g.Ratio))
	}
	all["LeastThick"] = func(g structureGiven) []any {
		n, e := structure.LeastThick(g.Beam, g.Wood, g.Burden, g.Ratio)
		return results(n, e)
	}
	all["LongestSpan"] = func(g structureGiven) []any {
		n, e := structure.LongestSpan(g.Beam, g.Wood, g.PerMetre, g.Ratio)
		return results(n, e)
	}
}

func goodStructure() structureGiven {
	burden := func(newtons int) api.Burden {
		return api.Burden{Points: [][2]int{{10, newtons}, {90, 2 * newtons}, {10, -1}}, Spread: newtons}
	}
	panel := api.Bay{Height: 1000, Width: 500, Thick: 4, Shear: 500, Joints: []int{7, 8, 9}}
	return structureGiven{
		Beam: api.Beam{Span: 100, Width: 250, Thick: 20}, Burden: burden(5), Low: burden(3), High: burden(4),
		Wood: api.Wood{Low: 10000, High: 12000, Strength: 40}, At: 30, Stiffness: 9000, Ratio: 300, Permille: 1300, PerMetre: 400,
		Bays: []api.Bay{panel, {Height: 1000, Width: 50, Joints: []int{5}}, panel}, Bay: 2, Newtons: 200, Limit: 30,
		Cabinet: api.Cabinet{
			Depth: 400, Lumps: []api.Lump{{At: 200, Grams: 20000}, {At: -5, Grams: 7}},
			Drawers: []api.Drawer{{At: 200, Grams: 5000, Travel: 350}, {At: 200, Grams: 900}, {At: 100, Grams: 700, Travel: 90}},
		},
		Open: []int{0, 2}, Most: 2, Height: 900, Area: [3]int{0, 16000000, 4000000}, Axis: 2, Shear: 1000, Pull: 500, Grams: 20000, Width: 600, Apart: 900,
	}
}
