package structure_test

import (
	"slices"
	"testing"

	"spokeshave/api"
	"spokeshave/structure"
)

// given is arguments for every function.
type given struct {
	beam                     api.Beam
	burden, low, high, heavy api.Burden
	wood                     api.Wood
	at, stiffness, ratio     int
	permille, perMetre       int
	bays                     []api.Bay
	bay, newtons, limit      int
	cabinet                  api.Cabinet
	open                     []int
	most, height             int
	area                     [3]int
	axis, shear, pull        int
	grams, width, apart      int
}

func good() given {
	two := func(newtons int) api.Burden {
		return api.Burden{Points: [][2]int{{400, newtons}, {700, newtons}}, Spread: newtons}
	}
	bay := func() api.Bay {
		return api.Bay{Height: 1000, Width: 500, Thick: 4, Shear: 500, Joints: []int{7, 8}}
	}
	mass := api.Drawer{At: 20, Grams: 5000, Travel: 300}
	return given{
		beam: exampleBeam(), burden: two(30), low: two(10), high: two(20), heavy: two(100), wood: exampleWood(),
		at: 500, stiffness: 10000, ratio: 100, permille: 1500, perMetre: 400,
		bays: []api.Bay{bay(), bay()}, bay: 1, newtons: 200, limit: 100,
		cabinet: api.Cabinet{Depth: 400, Lumps: []api.Lump{{At: 5, Grams: 6}, {At: 7, Grams: 8}}, Drawers: []api.Drawer{mass, mass, mass}},
		open:    []int{0, 2}, most: 2, height: 1000,
		area: [3]int{1, 2, 3}, axis: 1, shear: 1000, pull: 500, grams: 20000, width: 600, apart: 900,
	}
}

// flaw is a change of the arguments, with the error that it makes.
type flaw struct {
	want api.Errno
	make func(g *given)
}

// The flaws of arguments, each list in the order of the chapter.
func beamFlaws() []flaw {
	return []flaw{
		{api.ErrRange, func(g *given) { g.beam.Span = 0 }},
		{api.ErrRange, func(g *given) { g.beam.Width = 1001 }},
		{api.ErrRange, func(g *given) { g.beam.Thick = 0 }},
		{api.ErrRange, func(g *given) { g.beam.Ends = 2 }},
	}
}

func burdenFlaws(of func(g *given) *api.Burden) []flaw {
	return []flaw{
		{api.ErrLarge, func(g *given) { of(g).Points = append(of(g).Points, make([][2]int, 9)...) }},
		{api.ErrRange, func(g *given) { of(g).Points[0][0] = 2001 }},
		{api.ErrRange, func(g *given) { of(g).Points[0][1] = -2001 }},
		{api.ErrRange, func(g *given) { of(g).Points[1][0] = -1 }},
		{api.ErrRange, func(g *given) { of(g).Spread = 20001 }},
	}
}

func oneBurden() []flaw {
	return slices.Concat(beamFlaws(), burdenFlaws(func(g *given) *api.Burden { return &g.burden }))
}

func woodFlaws() []flaw {
	return []flaw{
		{api.ErrRange, func(g *given) { g.wood.Low = 0 }},
		{api.ErrRange, func(g *given) { g.wood.High = 30001 }},
		{api.ErrRange, func(g *given) { g.wood.Strength = 1001 }},
		{api.ErrOrder, func(g *given) { g.wood.Low = g.wood.High + 1 }},
	}
}

func outOfRange(spoil func(g *given)) []flaw { return []flaw{{api.ErrRange, spoil}} }

func place() []flaw     { return outOfRange(func(g *given) { g.at = 1001 }) }
func stiffness() []flaw { return outOfRange(func(g *given) { g.stiffness = 30001 }) }
func ratio() []flaw     { return outOfRange(func(g *given) { g.ratio = 0 }) }

// weak makes a beam that does not hold, and would not with any thickness.
func weak(e api.Errno) []flaw {
	return []flaw{{e, func(g *given) { g.beam.Width, g.burden.Spread, g.wood.Strength, g.wood.Low = 1, 20000, 1, 1 }}}
}

func rangeFlaws() []flaw {
	return []flaw{
		{api.ErrShape, func(g *given) { g.low.Points = append(g.low.Points, [2]int{1, 1}) }},
		{api.ErrShape, func(g *given) { g.high.Points[0][0] = 399 }},
		{api.ErrOrder, func(g *given) { g.low.Points[0][1] = 21 }},
		{api.ErrOrder, func(g *given) { g.low.Spread = 21 }},
	}
}

func heavierFlaws() []flaw {
	return append(
		burdenFlaws(func(g *given) *api.Burden { return &g.heavy }),
		flaw{api.ErrRange, func(g *given) { g.permille = 999 }},
		flaw{api.ErrLarge, func(g *given) { g.heavy.Points[1][1] = 1999 }},
		flaw{api.ErrLarge, func(g *given) { g.heavy.Spread = -19999 }},
	)
}

func bayFlaws() []flaw {
	l := []flaw{{api.ErrShape, func(g *given) { g.bays = append(g.bays, make([]api.Bay, 12)...) }}}
	for i := range 2 {
		l = append(l,
			flaw{api.ErrRange, func(g *given) { g.bays[i].Height = 0 }},
			flaw{api.ErrRange, func(g *given) { g.bays[i].Width = 3001 }},
			flaw{api.ErrRange, func(g *given) { g.bays[i].Thick = 101 }},
			flaw{api.ErrRange, func(g *given) { g.bays[i].Shear = -1 }},
			flaw{api.ErrForm, func(g *given) { g.bays[i].Thick, g.bays[i].Shear = 5, 0 }},
			flaw{api.ErrLarge, func(g *given) { g.bays[i].Joints = append(g.bays[i].Joints, make([]int, 9)...) }},
			flaw{api.ErrRange, func(g *given) { g.bays[i].Joints = []int{5, -1} }},
		)
	}
	return append(l, flaw{api.ErrShape, func(g *given) { g.bays[1].Height = 999 }})
}

func push() []flaw { return outOfRange(func(g *given) { g.newtons = 100001 }) }

// soft makes a frame without any stiffness.
func soft() []flaw {
	return []flaw{{api.ErrNone, func(g *given) { g.bays = []api.Bay{{Height: 5, Width: 5}, {Height: 5, Width: 5}} }}}
}

func panelFlaws() []flaw {
	return []flaw{
		{api.ErrMissing, func(g *given) { g.bay = 99 }},
		{api.ErrForm, func(g *given) { g.bays[1].Thick, g.bays[1].Shear = 0, 0 }},
		{api.ErrRange, func(g *given) { g.newtons = -1 }},
		{api.ErrRange, func(g *given) { g.limit = 100001 }},
		{api.ErrNone, func(g *given) { g.limit = 0 }},
	}
}

func cabinetFlaws() []flaw {
	return []flaw{
		{api.ErrRange, func(g *given) { g.cabinet.Depth = 0 }},
		{api.ErrLarge, func(g *given) { g.cabinet.Lumps = append(g.cabinet.Lumps, make([]api.Lump, 12)...) }},
		{api.ErrLarge, func(g *given) { g.cabinet.Drawers = append(g.cabinet.Drawers, make([]api.Drawer, 12)...) }},
		{api.ErrRange, func(g *given) { g.cabinet.Lumps[0].At = 3001 }},
		{api.ErrRange, func(g *given) { g.cabinet.Lumps[1].Grams = -1 }},
		{api.ErrRange, func(g *given) { g.cabinet.Drawers[0].At = -3001 }},
		{api.ErrRange, func(g *given) { g.cabinet.Drawers[1].Grams = 1000001 }},
		{api.ErrRange, func(g *given) { g.cabinet.Drawers[2].Travel = 3001 }},
	}
}

func openFlaws() []flaw {
	return []flaw{
		{api.ErrMissing, func(g *given) { g.open = append(g.open, 99) }},
		{api.ErrOrder, func(g *given) { g.open = []int{2, 0} }},
	}
}

func most() []flaw { return outOfRange(func(g *given) { g.most = 13 }) }

// call is a function with all flaws that it looks for, in their order.
type call struct {
	of    func(g given) []any
	flaws [][]flaw
}

// beamCalls are the functions of beams.
func beamCalls() map[string]call {
	return map[string]call{
		"CheckBeam":   {func(g given) []any { return results(structure.CheckBeam(g.beam)) }, [][]flaw{beamFlaws()}},
		"CheckBurden": {func(g given) []any { return results(structure.CheckBurden(g.beam, g.burden)) }, [][]flaw{oneBurden()}},
		"CheckWood":   {func(g given) []any { return results(structure.CheckWood(g.wood)) }, [][]flaw{woodFlaws()}},
		"Reactions": {func(g given) []any {
			x, y, z, e := structure.Reactions(g.beam, g.burden)
			return results(x, y, z, e)
		}, [][]flaw{oneBurden()}},
		"Shear":  {func(g given) []any { x, e := structure.Shear(g.beam, g.burden, g.at); return results(x, e) }, [][]flaw{oneBurden(), place()}},
		"Moment": {func(g given) []any { x, e := structure.Moment(g.beam, g.burden, g.at); return results(x, e) }, [][]flaw{oneBurden(), place()}},
		"GreatestMoment": {func(g given) []any {
			n, x, e := structure.GreatestMoment(g.beam, g.burden)
			return results(n, x, e)
		}, [][]flaw{oneBurden()}},
		"Stress": {func(g given) []any { x, e := structure.Stress(g.beam, g.burden); return results(x, e) }, [][]flaw{oneBurden()}},
		"Sag": {func(g given) []any {
			x, e := structure.Sag(g.beam, g.stiffness, g.burden, g.at)
			return results(x, e)
		}, [][]flaw{oneBurden(), stiffness(), place()}},
		"GreatestSag": {func(g given) []any {
			n, x, e := structure.GreatestSag(g.beam, g.stiffness, g.burden)
			return results(n, x, e)
		}, [][]flaw{oneBurden(), stiffness()}},
		"SagRange": {func(g given) []any {
			x, y, e := structure.SagRange(g.beam, g.wood, g.burden, g.at)
			return results(x, y, e)
		}, [][]flaw{oneBurden(), woodFlaws(), place()}},
		"Heavier": {func(g given) []any {
			x, e := structure.Heavier(g.heavy, g.permille)
			return results(x.Points, x.Spread, e)
		}, [][]flaw{heavierFlaws()}},
		"MomentRange": {func(g given) []any {
			x, y, e := structure.MomentRange(g.beam, g.low, g.high, g.at)
			return results(x, y, e)
		}, [][]flaw{
			beamFlaws(), burdenFlaws(func(g *given) *api.Burden { return &g.low }), burdenFlaws(func(g *given) *api.Burden { return &g.high }), rangeFlaws(), place(),
		}},
	}
}

// sizeCalls are the functions that look for what holds, and those of frames, cabinets and glue.
func sizeCalls() map[string]call {
	return map[string]call{
		"Holds": {func(g given) []any { return results(structure.Holds(g.beam, g.wood, g.burden, g.ratio)) }, [][]flaw{
			oneBurden(), woodFlaws(), ratio(), weak(api.ErrWeak),
		}},
		"LeastThick": {func(g given) []any {
			n, e := structure.LeastThick(g.beam, g.wood, g.burden, g.ratio)
			return results(n, e)
		}, [][]flaw{oneBurden(), woodFlaws(), ratio(), weak(api.ErrNone)}},
		"LongestSpan": {func(g given) []any {
			n, e := structure.LongestSpan(g.beam, g.wood, g.perMetre, g.ratio)
			return results(n, e)
		}, [][]flaw{
			beamFlaws(), woodFlaws(), outOfRange(func(g *given) { g.perMetre = 10001 }), ratio(),
			{{api.ErrNone, func(g *given) { g.beam.Width, g.beam.Thick, g.wood.Strength, g.perMetre = 1, 1, 1, 10000 }}},
		}},
		"CheckBays": {func(g given) []any { return results(structure.CheckBays(g.bays)) }, [][]flaw{bayFlaws()}},
		"Drift":     {func(g given) []any { x, e := structure.Drift(g.bays, g.newtons); return results(x, e) }, [][]flaw{bayFlaws(), push(), soft()}},
		"LeastPanel": {func(g given) []any {
			n, e := structure.LeastPanel(g.bays, g.bay, g.newtons, g.limit)
			return results(n, e)
		}, [][]flaw{bayFlaws(), panelFlaws()}},
		"CheckCabinet": {func(g given) []any { return results(structure.CheckCabinet(g.cabinet)) }, [][]flaw{cabinetFlaws()}},
		"Balance":      {func(g given) []any { n, e := structure.Balance(g.cabinet, g.open); return results(n, e) }, [][]flaw{cabinetFlaws(), openFlaws()}},
		"Worst":        {func(g given) []any { l, n, e := structure.Worst(g.cabinet, g.most); return results(l, n, e) }, [][]flaw{cabinetFlaws(), most()}},
		"Anchor": {func(g given) []any { n, e := structure.Anchor(g.cabinet, g.most, g.height); return results(n, e) }, [][]flaw{
			cabinetFlaws(), most(), outOfRange(func(g *given) { g.height = 0 }),
		}},
		"Carries": {func(g given) []any { n, e := structure.Carries(g.area, g.axis, g.shear, g.pull); return results(n, e) }, [][]flaw{
			outOfRange(func(g *given) { g.area[2] = -1 }), outOfRange(func(g *given) { g.axis = 3 }), outOfRange(func(g *given) { g.shear = -1 }), outOfRange(func(g *given) { g.pull = 100001 }),
		}},
		"Hinge": {func(g given) []any { x, e := structure.Hinge(g.grams, g.width, g.apart); return results(x, e) }, [][]flaw{
			outOfRange(func(g *given) { g.grams = 0 }), outOfRange(func(g *given) { g.width = 3001 }), outOfRange(func(g *given) { g.apart = 0 }),
		}},
	}
}

// R1: if several errors apply, the one that the chapter lists first is returned, and the other results are zero values.
func TestErrors(t *testing.T) {
	for _, calls := range []map[string]call{beamCalls(), sizeCalls()} {
		for name, c := range calls {
			checkErrors(t, name, c.of, slices.Concat(c.flaws...))
		}
	}
}

// checkErrors tests a function with each flaw, and with each two of them.
func checkErrors(t *testing.T, name string, call func(g given) []any, flaws []flaw) {
	t.Helper()
	if e := errorOf(t, name, call(good())); e != api.OK {
		t.Errorf("%s: %d without a flaw", name, e)
	}
	for i, first := range flaws {
		for j, second := range flaws[i:] {
			g := good()
			if j > 0 {
				second.make(&g)
			}
			first.make(&g)
			if e := errorOf(t, name, call(g)); e != first.want {
				t.Errorf("%s, flaws %d and %d: %d, want %d", name, i, i+j, e, first.want)
			}
		}
	}
}
