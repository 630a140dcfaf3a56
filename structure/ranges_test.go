package structure_test

import (
	"maps"
	"math"
	"testing"

	"spokeshave/api"
	"spokeshave/structure"
)

// numbers is a number with its range, and the error that a function returns for it.
type numbers struct {
	low, high int
	outside   api.Errno
	call      func(g given, n int) api.Errno
}

// in returns a number that is spoilt in good arguments for a function.
func in(low, high int, of func(g given) []any, set func(g *given, n int)) numbers {
	return numbers{low, high, api.ErrRange, func(g given, n int) api.Errno {
		set(&g, n)
		l := of(g)
		return l[len(l)-1].(api.Errno)
	}}
}

func beamRanges() map[string]numbers {
	c := beamCalls()
	return map[string]numbers{
		"CheckBeam, Span":     in(1, 2000, c["CheckBeam"].of, func(g *given, n int) { g.beam.Span = n }),
		"CheckBeam, Width":    in(1, 1000, c["CheckBeam"].of, func(g *given, n int) { g.beam.Width = n }),
		"CheckBeam, Thick":    in(1, 300, c["CheckBeam"].of, func(g *given, n int) { g.beam.Thick = n }),
		"CheckBeam, Ends":     in(0, 1, c["CheckBeam"].of, func(g *given, n int) { g.beam.Ends = n }),
		"CheckBurden, place":  in(0, 1000, c["CheckBurden"].of, func(g *given, n int) { g.burden.Points[1][0] = n }),
		"CheckBurden, weight": in(-2000, 2000, c["CheckBurden"].of, func(g *given, n int) { g.burden.Points[1][1] = n }),
		"CheckBurden, Spread": in(-20000, 20000, c["CheckBurden"].of, func(g *given, n int) { g.burden.Spread = n }),
		"Shear, at":           in(0, 1000, c["Shear"].of, func(g *given, n int) { g.at = n }),
		"Moment, at":          in(0, 1000, c["Moment"].of, func(g *given, n int) { g.at = n }),
		"Sag, at":             in(0, 1000, c["Sag"].of, func(g *given, n int) { g.at = n }),
		"SagRange, at":        in(0, 1000, c["SagRange"].of, func(g *given, n int) { g.at = n }),
		"MomentRange, at":     in(0, 1000, c["MomentRange"].of, func(g *given, n int) { g.at = n }),
		"Sag, stiffness":      in(1, 30000, c["Sag"].of, func(g *given, n int) { g.stiffness = n }),
		"GreatestSag":         in(1, 30000, c["GreatestSag"].of, func(g *given, n int) { g.stiffness = n }),
		"Heavier, place":      in(0, 2000, c["Heavier"].of, func(g *given, n int) { g.heavy.Points[0][0] = n }),
		"Heavier, weight":     in(-2000, 2000, c["Heavier"].of, func(g *given, n int) { g.heavy.Points[0][1], g.permille = n, 1000 }),
		"Heavier, Spread":     in(-20000, 20000, c["Heavier"].of, func(g *given, n int) { g.heavy.Spread, g.permille = n, 1000 }),
		"Heavier, permille":   in(1000, 5000, c["Heavier"].of, func(g *given, n int) { g.permille = n }),
		"CheckWood, Low":      in(1, 30000, c["CheckWood"].of, func(g *given, n int) { g.wood.Low, g.wood.High = n, 30000 }),
		"CheckWood, High":     in(1, 30000, c["CheckWood"].of, func(g *given, n int) { g.wood.Low, g.wood.High = 1, n }),
		"CheckWood, Strength": in(1, 1000, c["CheckWood"].of, func(g *given, n int) { g.wood.Strength = n }),
	}
}

func sizeRanges() map[string]numbers {
	c := sizeCalls()
	thick := func(g *given) { g.beam.Thick = 300 }
	return map[string]numbers{
		"Holds, ratio":          in(1, 1000, c["Holds"].of, func(g *given, n int) { g.ratio = n; thick(g) }),
		"LeastThick, ratio":     in(1, 1000, c["LeastThick"].of, func(g *given, n int) { g.ratio = n }),
		"LongestSpan, ratio":    in(1, 1000, c["LongestSpan"].of, func(g *given, n int) { g.ratio = n }),
		"LongestSpan, perMetre": in(1, 10000, c["LongestSpan"].of, func(g *given, n int) { g.perMetre = n }),
		"CheckBays, Height":     in(1, 3000, c["CheckBays"].of, func(g *given, n int) { g.bays[0].Height, g.bays[1].Height = n, n }),
		"CheckBays, Width":      in(1, 3000, c["CheckBays"].of, func(g *given, n int) { g.bays[1].Width = n }),
		"CheckBays, Joints":     in(0, 1000000, c["CheckBays"].of, func(g *given, n int) { g.bays[1].Joints[1] = n }),
		"Drift, newtons":        in(0, 100000, c["Drift"].of, func(g *given, n int) { g.newtons = n }),
		"LeastPanel, newtons":   in(0, 100000, c["LeastPanel"].of, func(g *given, n int) { g.newtons, g.limit = n, 100000 }),
		"LeastPanel, limit":     in(0, 100000, c["LeastPanel"].of, func(g *given, n int) { g.newtons, g.limit = 0, n }),
		"Worst, most":           in(0, 12, c["Worst"].of, func(g *given, n int) { g.most = n }),
		"Anchor, most":          in(0, 12, c["Anchor"].of, func(g *given, n int) { g.most = n }),
		"Anchor, height":        in(1, 3000, c["Anchor"].of, func(g *given, n int) { g.height = n }),
		"Cabinet, Depth":        in(1, 3000, c["CheckCabinet"].of, func(g *given, n int) { g.cabinet.Depth = n }),
		"Lump, At":              in(-3000, 3000, c["CheckCabinet"].of, func(g *given, n int) { g.cabinet.Lumps[1].At = n }),
		"Lump, Grams":           in(0, 1000000, c["CheckCabinet"].of, func(g *given, n int) { g.cabinet.Lumps[1].Grams = n }),
		"Drawer, At":            in(-3000, 3000, c["CheckCabinet"].of, func(g *given, n int) { g.cabinet.Drawers[1].At = n }),
		"Drawer, Grams":         in(0, 1000000, c["CheckCabinet"].of, func(g *given, n int) { g.cabinet.Drawers[1].Grams = n }),
		"Drawer, Travel":        in(0, 3000, c["CheckCabinet"].of, func(g *given, n int) { g.cabinet.Drawers[1].Travel = n }),
		"Carries, first area":   in(0, 1000000000000, c["Carries"].of, func(g *given, n int) { g.area[0] = n }),
		"Carries, second area":  in(0, 1000000000000, c["Carries"].of, func(g *given, n int) { g.area[1] = n }),
		"Carries, third area":   in(0, 1000000000000, c["Carries"].of, func(g *given, n int) { g.area[2] = n }),
		"Carries, axis":         in(0, 2, c["Carries"].of, func(g *given, n int) { g.axis = n }),
		"Carries, shear":        in(0, 100000, c["Carries"].of, func(g *given, n int) { g.shear = n }),
		"Carries, pull":         in(0, 100000, c["Carries"].of, func(g *given, n int) { g.pull = n }),
		"Hinge, grams":          in(1, 200000, c["Hinge"].of, func(g *given, n int) { g.grams = n }),
		"Hinge, width":          in(1, 3000, c["Hinge"].of, func(g *given, n int) { g.width = n }),
		"Hinge, apart":          in(1, 3000, c["Hinge"].of, func(g *given, n int) { g.apart = n }),
	}
}

// P7.1 to P7.9: the ranges of single numbers.
func TestRanges(t *testing.T) {
	all := beamRanges()
	maps.Copy(all, sizeRanges())
	all["LeastPanel, bay"] = numbers{0, 1, api.ErrMissing, func(g given, n int) api.Errno {
		_, e := structure.LeastPanel(g.bays, n, g.newtons, g.limit)
		return e
	}}
	all["Balance, open"] = numbers{0, 2, api.ErrMissing, func(g given, n int) api.Errno {
		_, e := structure.Balance(g.cabinet, []int{n})
		return e
	}}
	for name, x := range all {
		for n, want := range map[int]api.Errno{
			x.low: api.OK, x.high: api.OK, x.low - 1: x.outside, x.high + 1: x.outside, math.MinInt: x.outside, math.MaxInt: x.outside,
		} {
			if e := x.call(good(), n); e != want {
				t.Errorf("%s %d: %d, want %d", name, n, e, want)
			}
		}
	}
}

// P7.7: thickness and shear stiffness of a panel, which are both 0 or neither.
func TestPanelRanges(t *testing.T) {
	for _, x := range []struct {
		thick, shear int
		want         api.Errno
	}{
		{0, 0, api.OK}, {1, 1, api.OK}, {100, 2000, api.OK}, {1, 2000, api.OK}, {100, 1, api.OK},
		{0, 1, api.ErrForm}, {1, 0, api.ErrForm}, {0, 2000, api.ErrForm}, {100, 0, api.ErrForm},
		{-1, 0, api.ErrRange}, {0, -1, api.ErrRange}, {101, 0, api.ErrRange}, {0, 2001, api.ErrRange}, {101, 1, api.ErrRange}, {1, 2001, api.ErrRange},
		{math.MinInt, 1, api.ErrRange}, {1, math.MaxInt, api.ErrRange},
	} {
		if e := structure.CheckBays([]api.Bay{{Height: 1, Width: 1, Thick: x.thick, Shear: x.shear}}); e != x.want {
			t.Errorf("%v: %d, want %d", x, e, x.want)
		}
	}
}

// P7.1, P7.4 and P7.7: how many weights and joints there may be.
func TestCounts(t *testing.T) {
	for count, want := range map[int]api.Errno{0: api.OK, 8: api.OK, 9: api.ErrLarge, 1000: api.ErrLarge} {
		l := api.Burden{Points: make([][2]int, count)}
		if e := structure.CheckBurden(exampleBeam(), l); e != want {
			t.Errorf("CheckBurden, %d weights: %d", count, e)
		}
		if _, e := structure.Heavier(l, 2000); e != want {
			t.Errorf("Heavier, %d weights: %d", count, e)
		}
		if e := structure.CheckBays([]api.Bay{{Height: 1, Width: 1, Joints: make([]int, count)}}); e != want {
			t.Errorf("CheckBays, %d joints: %d", count, e)
		}
	}
}

// P7.1: of several weights the first one with an error decides, and a weight at the end of a beam is right.
func TestPlacesOfWeights(t *testing.T) {
	for _, x := range []struct {
		place int
		want  api.Errno
	}{{0, api.OK}, {5, api.OK}, {6, api.ErrRange}, {-1, api.ErrRange}} {
		if e := structure.CheckBurden(api.Beam{Span: 5, Width: 1, Thick: 1}, weightAt(x.place, 1)); e != x.want {
			t.Error(x, e)
		}
	}
}

// P7.5: a stiffness from Low to High.
func TestCheckWood(t *testing.T) {
	for _, x := range []struct {
		w    api.Wood
		want api.Errno
	}{
		{api.Wood{Low: 5, High: 5, Strength: 1}, api.OK}, {api.Wood{Low: 6, High: 5, Strength: 1}, api.ErrOrder}, {api.Wood{Low: 6, High: 5}, api.ErrRange},
		{api.Wood{Low: 30001, High: 5, Strength: 1}, api.ErrRange}, {api.Wood{Low: 5, Strength: 1}, api.ErrRange},
	} {
		if e := structure.CheckWood(x.w); e != x.want {
			t.Error(x, e)
		}
	}
}
