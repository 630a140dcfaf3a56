package fit_test

import (
	"math"
	"slices"
	"testing"

	"spokeshave/api"
	"spokeshave/fit"
)

// given is arguments for every function.
type given struct {
	made      api.Made
	fit       api.Fit
	fits      []api.Fit
	season    api.Season
	seasons   []api.Season
	moisture  int
	moistures []int
	claim     api.Break
	inner     int
	panel     api.Panel
	depth     int
	screw     int
	pieces    []api.Made
	limit     int
}

func good() given {
	other, wide := drawer(), drawer()
	other.Name, wide.Most = "other", 5000
	return given{
		made: drawer().Inner[0], fit: wide, fits: []api.Fit{other, drawer()},
		season: year(), seasons: []api.Season{{Name: "dry", Low: 70, High: 80}, year()},
		moisture: 100, moistures: []int{100}, claim: api.Break{Fit: 1, Season: 1, Side: -1, Moistures: []int{120}},
		panel: examplePanel(), depth: 1015, screw: 500, pieces: drawer().Inner, limit: 20,
	}
}

// flaw is a change of the arguments, with the error that it makes.
type flaw struct {
	want api.Errno
	make func(g *given)
}

// The flaws of a fit, of fits, of a season, and so on; each list in the order of the chapter.
func fitFlaws(of func(g *given) *api.Fit) []flaw {
	return []flaw{
		{api.ErrName, func(g *given) { of(g).Name = "" }},
		{api.ErrLarge, func(g *given) { of(g).Inner = append(of(g).Inner, make([]api.Made, 20)...) }},
		{api.ErrRange, func(g *given) { of(g).Outer[0].Size = -1 }},
		{api.ErrRange, func(g *given) { of(g).Inner[0].Group = 20 }},
		{api.ErrRange, func(g *given) { of(g).Least = 600001 }},
		{api.ErrOrder, func(g *given) { of(g).Most = -1 }},
	}
}

func oneFit() []flaw { return fitFlaws(func(g *given) *api.Fit { return &g.fit }) }

func allFits() []flaw {
	return slices.Concat(
		[]flaw{{api.ErrLarge, func(g *given) { g.fits = append(g.fits, make([]api.Fit, 60)...) }}},
		fitFlaws(func(g *given) *api.Fit { return &g.fits[0] }),
		fitFlaws(func(g *given) *api.Fit { return &g.fits[1] }),
		[]flaw{{api.ErrExists, func(g *given) { g.fits[1].Name = g.fits[0].Name }}},
	)
}

func seasonFlaws(of func(g *given) *api.Season) []flaw {
	return []flaw{
		{api.ErrName, func(g *given) { of(g).Name = "9" }},
		{api.ErrRange, func(g *given) { of(g).Low = 401 }},
		{api.ErrOrder, func(g *given) { of(g).High = 59 }},
	}
}

func oneSeason() []flaw { return seasonFlaws(func(g *given) *api.Season { return &g.season }) }

func allSeasons() []flaw {
	return slices.Concat(
		[]flaw{{api.ErrLarge, func(g *given) { g.seasons = append(g.seasons, make([]api.Season, 24)...) }}},
		seasonFlaws(func(g *given) *api.Season { return &g.seasons[0] }),
		seasonFlaws(func(g *given) *api.Season { return &g.seasons[1] }),
		[]flaw{{api.ErrExists, func(g *given) { g.seasons[1].Name = g.seasons[0].Name }}},
	)
}

func onePanel() []flaw {
	return []flaw{
		{api.ErrRange, func(g *given) { g.panel.Width.Rate = 2001 }},
		{api.ErrRange, func(g *given) { g.panel.Opening.Minus = -1 }},
		{api.ErrRange, func(g *given) { g.panel.Hold = -1 }},
	}
}

// somePieces are the flaws of a list of pieces.
func somePieces() []flaw {
	return []flaw{
		{api.ErrLarge, func(g *given) { g.pieces = append(g.pieces, make([]api.Made, 20)...) }},
		{api.ErrRange, func(g *given) { g.pieces[0].Plus = -1 }},
	}
}

func made() []flaw {
	return []flaw{{api.ErrRange, func(g *given) { g.made.Moisture = 401 }}}
}

func depth() []flaw {
	return []flaw{{api.ErrRange, func(g *given) { g.depth = 300001 }}}
}

// breakFlaws are those of a break beside those of its fits and seasons.
func breakFlaws() []flaw {
	return []flaw{
		{api.ErrMissing, func(g *given) { g.claim.Fit = 99 }},
		{api.ErrMissing, func(g *given) { g.claim.Season = 99 }},
		{api.ErrShape, func(g *given) { g.claim.Moistures = append(g.claim.Moistures, 100) }},
		{api.ErrRange, func(g *given) { g.claim.Moistures[0] = 121 }},
		{api.ErrRange, func(g *given) { g.claim.Side = 0 }},
		{api.ErrProof, func(g *given) { g.claim.Side = 1 }},
	}
}

// R1: if several errors apply, the one that the chapter lists first is returned, and the other results are zero values.
func TestErrors(t *testing.T) {
	for name, x := range map[string]struct {
		call  func(g given) (any, api.Errno)
		flaws [][]flaw
	}{
		"CheckFit":     {func(g given) (any, api.Errno) { return 0, fit.CheckFit(g.fit) }, [][]flaw{oneFit()}},
		"CheckFits":    {func(g given) (any, api.Errno) { return 0, fit.CheckFits(g.fits) }, [][]flaw{allFits()}},
		"CheckSeasons": {func(g given) (any, api.Errno) { return 0, fit.CheckSeasons(g.seasons) }, [][]flaw{allSeasons()}},
		"Groups":       {func(g given) (any, api.Errno) { x, e := fit.Groups(g.fit); return len(x), e }, [][]flaw{oneFit()}},
		"SizeOver": {func(g given) (any, api.Errno) { return fit.SizeOver(g.made, g.season) }, [][]flaw{
			made(), oneSeason(),
		}},
		"Clearance": {func(g given) (any, api.Errno) { return fit.Clearance(g.fit, g.moistures) }, [][]flaw{
			oneFit(),
			{{api.ErrShape, func(g *given) { g.moistures = append(g.moistures, 5) }}},
			{{api.ErrRange, func(g *given) { g.moistures[0] = 401 }}},
		}},
		"ClearanceOver": {func(g given) (any, api.Errno) { return fit.ClearanceOver(g.fit, g.season) }, [][]flaw{
			oneFit(), oneSeason(),
		}},
		"Holds": {func(g given) (any, api.Errno) {
			is, b, e := fit.Holds(g.fit, g.seasons)
			return [5]any{is, b.Fit, b.Season, b.Side, len(b.Moistures)}, e
		}, [][]flaw{oneFit(), allSeasons()}},
		"All":        {func(g given) (any, api.Errno) { x, e := fit.All(g.fits, g.seasons); return len(x), e }, [][]flaw{allFits(), allSeasons()}},
		"CheckBreak": {func(g given) (any, api.Errno) { return 0, fit.CheckBreak(g.fits, g.seasons, g.claim) }, [][]flaw{allFits(), allSeasons(), breakFlaws()}},
		"Adjust": {func(g given) (any, api.Errno) { return fit.Adjust(g.fit, g.seasons, g.inner) }, [][]flaw{
			oneFit(), allSeasons(), {{api.ErrMissing, func(g *given) { g.inner = 99 }}},
			{{api.ErrNone, func(g *given) { g.fit.Outer[0].Size = 0 }}},
		}},
		"Worst": {func(g given) (any, api.Errno) {
			x, y, e := fit.Worst(g.fit, g.seasons)
			return [4]int{x[0], x[1], y.Lo, y.Hi}, e
		}, [][]flaw{oneFit(), allSeasons()}},
		"CheckPanel": {func(g given) (any, api.Errno) { return 0, fit.CheckPanel(g.panel) }, [][]flaw{onePanel()}},
		"Grooves":    {func(g given) (any, api.Errno) { x, e := fit.Grooves(g.panel, g.depth); return len(x), e }, [][]flaw{onePanel(), depth()}},
		"LeastGroove": {func(g given) (any, api.Errno) { return fit.LeastGroove(g.panel, g.seasons) }, [][]flaw{
			onePanel(), allSeasons(), {{api.ErrNone, func(g *given) { g.panel.Opening.Size = 40000 }}},
		}},
		"GreatestPanel": {func(g given) (any, api.Errno) { return fit.GreatestPanel(g.panel, g.depth, g.seasons) }, [][]flaw{
			onePanel(), depth(), allSeasons(), {{api.ErrNone, func(g *given) { g.panel.Hold = 100000 }}},
		}},
		"Slot": {func(g given) (any, api.Errno) { return fit.Slot(g.made, g.screw, g.seasons) }, [][]flaw{
			made(), {{api.ErrRange, func(g *given) { g.screw = 10001 }}}, allSeasons(),
		}},
		"Stack": {func(g given) (any, api.Errno) { return fit.Stack(g.pieces) }, [][]flaw{somePieces()}},
		"Likely": {func(g given) (any, api.Errno) { return fit.Likely(g.pieces, g.limit) }, [][]flaw{
			somePieces(), {{api.ErrRange, func(g *given) { g.limit = 600001 }}},
		}},
		"Print": {func(g given) (any, api.Errno) { return fit.Print(g.fits) }, [][]flaw{allFits()}},
	} {
		checkErrors(t, name, x.call, slices.Concat(x.flaws...))
	}
}

// checkErrors tests a function with each flaw, and with each two of them.
func checkErrors(t *testing.T, name string, call func(g given) (any, api.Errno), flaws []flaw) {
	t.Helper()
	if _, e := call(good()); e != api.OK {
		t.Errorf("%s: %d without a flaw", name, e)
	}
	none := zeroOf(call)
	for i, first := range flaws {
		for j, second := range flaws[i:] {
			g := good()
			if j > 0 {
				second.make(&g)
			}
			first.make(&g)
			if x, e := call(g); e != first.want || x != none {
				t.Errorf("%s, flaws %d and %d: %v, %d, want %v, %d", name, i, i+j, x, e, none, first.want)
			}
		}
	}
}

// zeroOf returns the zero value of a function's result.
func zeroOf(call func(g given) (any, api.Errno)) any {
	x, _ := call(good())
	switch x.(type) {
	case int:
		return 0
	case bool:
		return false
	case string:
		return ""
	case api.Interval:
		return api.Interval{}
	case [4]int:
		return [4]int{}
	default:
		return [5]any{false, 0, 0, 0, 0}
	}
}

// P6.2 to P6.7: the ranges of single numbers.
func TestRanges(t *testing.T) {
	for name, x := range map[string]struct {
		low, high int
		outside   api.Errno
		call      func(n int) api.Errno
	}{
		"SizeAt, moisture":     {0, 400, api.ErrRange, func(n int) api.Errno { _, e := fit.SizeAt(good().made, n); return e }},
		"Clearance, moisture":  {0, 400, api.ErrRange, func(n int) api.Errno { _, e := fit.Clearance(drawer(), []int{n}); return e }},
		"Adjust, inner":        {0, 0, api.ErrMissing, func(n int) api.Errno { _, e := fit.Adjust(drawer(), nil, n); return e }},
		"Grooves, depth":       {0, 300000, api.ErrRange, func(n int) api.Errno { _, e := fit.Grooves(examplePanel(), n); return e }},
		"GreatestPanel, depth": {0, 300000, api.ErrRange, func(n int) api.Errno { _, e := fit.GreatestPanel(examplePanel(), n, nil); return e }},
		"Slot, screw":          {1, 10000, api.ErrRange, func(n int) api.Errno { _, e := fit.Slot(good().made, n, nil); return e }},
		"Likely, limit":        {0, 600000, api.ErrRange, func(n int) api.Errno { _, e := fit.Likely(nil, n); return e }},
		"CheckPanel, Hold":     {0, 100000, api.ErrRange, func(n int) api.Errno { return fit.CheckPanel(api.Panel{Hold: n}) }},
		"CheckPanel, Play":     {0, 100000, api.ErrRange, func(n int) api.Errno { return fit.CheckPanel(api.Panel{Play: n}) }},
	} {
		for n, want := range map[int]api.Errno{
			x.low: api.OK, x.high: api.OK, x.low - 1: x.outside, x.high + 1: x.outside, math.MinInt: x.outside, math.MaxInt: x.outside,
		} {
			if e := x.call(n); e != want {
				t.Errorf("%s %d: %d, want %d", name, n, e, want)
			}
		}
	}
}

// P6.1 to P6.3: the error of a season, in all functions with one.
func TestSeasons(t *testing.T) {
	for _, x := range []struct {
		s    api.Season
		want api.Errno
	}{
		{api.Season{Name: "a", Low: 0, High: 400}, api.OK},
		{api.Season{Name: "a", Low: 400, High: 400}, api.OK},
		{api.Season{Name: "a", Low: 0, High: 0}, api.OK},
		{api.Season{Name: "a", Low: -1, High: 5}, api.ErrRange},
		{api.Season{Name: "a", Low: 401, High: 401}, api.ErrRange},
		{api.Season{Name: "a", Low: 0, High: -1}, api.ErrRange},
		{api.Season{Name: "a", Low: 0, High: 401}, api.ErrRange},
		{api.Season{Name: "a", Low: math.MinInt, High: math.MaxInt}, api.ErrRange},
		{api.Season{Name: "a", Low: 6, High: 5}, api.ErrOrder},
		{api.Season{Name: "a", Low: 401, High: 5}, api.ErrRange},
		{api.Season{Name: "", Low: 401, High: 5}, api.ErrName},
		{api.Season{Name: "", Low: 6, High: 5}, api.ErrName},
	} {
		for name, call := range map[string]func(s api.Season) api.Errno{
			"CheckSeasons":  func(s api.Season) api.Errno { return fit.CheckSeasons([]api.Season{s}) },
			"SizeOver":      func(s api.Season) api.Errno { _, e := fit.SizeOver(api.Made{Size: 10}, s); return e },
			"ClearanceOver": func(s api.Season) api.Errno { _, e := fit.ClearanceOver(drawer(), s); return e },
		} {
			if e := call(x.s); e != x.want {
				t.Errorf("%s, %v: %d, want %d", name, x.s, e, x.want)
			}
		}
	}
}
