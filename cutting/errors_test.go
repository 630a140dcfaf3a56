package cutting_test

import (
	"reflect"
	"slices"
	"testing"

	"spokeshave/api"
	"spokeshave/cutting"
)

// given is arguments for every function.
type given struct {
	board       api.Board
	trim        api.Trim
	layout      api.Layout
	job         api.Job
	plan        []api.Layout
	least, k    [2]int
	n, num, den int
	cross       api.Cross
	lists       [][]int
	flitch      []int
	from, faces int
	veneer      api.Veneer
	printed     []api.Layout
}

func good() given {
	b := with(plain("b", 100, 40), api.Rect{X1: 90, Y1: 30, X2: 95, Y2: 35}, api.Rect{X1: 91, Y1: 30, X2: 95, Y2: 35})
	c := with(plain("c", 100, 40), api.Rect{X1: 90, Y1: 30, X2: 95, Y2: 35})
	cut := func() []api.Cut { return []api.Cut{across(40, 1, 2), along(20, 3, 4), waste(), piece(0), waste()} }
	return given{
		board: b, trim: api.Trim{Kerf: 2}, layout: layout(0, cut()...),
		job: api.Job{
			Stock:  []api.Board{b, c, plain("d", 100, 40)},
			Blanks: []api.Blank{wanted("p", 40, 20, 2), wanted("q", 98, 40, 1)},
			Trim:   api.Trim{Kerf: 2},
		},
		plan:  []api.Layout{layout(0, cut()...), layout(1, cut()...), layout(2, across(98, 1, 2), piece(1), waste())},
		least: [2]int{5, 5}, k: [2]int{2, 3}, n: 2, num: 3, den: 7,
		cross: cross(1, []int{100, 100}, 50, 50, 49), lists: [][]int{{0, 2}, {1}},
		flitch: []int{3, 4, 6, 7, 8}, from: 2, faces: 3,
		veneer:  api.Veneer{Leaves: []int{6, 7, 8}, Flip: []bool{false, true, false}},
		printed: []api.Layout{layout(0, cut()...), layout(1, cut()...)},
	}
}

// flaw is a change of the arguments, with the error that it makes.
type flaw struct {
	want api.Errno
	make func(g *given)
}

// The flaws of arguments, each list in the order of the chapter.
func boardFlaws(of func(g *given) *api.Board) []flaw {
	return []flaw{
		{api.ErrName, func(g *given) { of(g).Name = "" }},
		{api.ErrName, func(g *given) { of(g).Species = "9" }},
		{api.ErrRange, func(g *given) { of(g).Length = 600001 }},
		{api.ErrRange, func(g *given) { of(g).Moisture = 401 }},
		{api.ErrLarge, func(g *given) { of(g).Defects = append(slices.Clip(of(g).Defects), make([]api.Rect, 60)...) }},
		{api.ErrForm, func(g *given) { of(g).Defects[0].X1 = 101 }},
		{api.ErrRange, func(g *given) { of(g).Defects[0].X2 = 101 }},
	}
}

func trimFlaws(of func(g *given) *api.Trim) []flaw {
	return []flaw{
		{api.ErrRange, func(g *given) { of(g).Kerf = -1 }},
		{api.ErrRange, func(g *given) { of(g).Ends = 10001 }},
		{api.ErrRange, func(g *given) { of(g).Sides = -1 }},
	}
}

func blankFlaws() []flaw {
	l := []flaw{{api.ErrLarge, func(g *given) { g.job.Blanks = append(g.job.Blanks, make([]api.Blank, 30)...) }}}
	for i := range 2 {
		l = append(l, flaw{api.ErrName, func(g *given) { g.job.Blanks[i].Species = "" }})
		if i > 0 {
			l = append(l, flaw{api.ErrExists, func(g *given) { g.job.Blanks[i].Name = "p" }})
		}
		l = append(l,
			flaw{api.ErrRange, func(g *given) { g.job.Blanks[i].Length = 0 }},
			flaw{api.ErrRange, func(g *given) { g.job.Blanks[i].Count = 201 }},
		)
	}
	return l
}

func jobFlaws() []flaw {
	first := boardFlaws(func(g *given) *api.Board { return &g.job.Stock[0] })
	second := boardFlaws(func(g *given) *api.Board { return &g.job.Stock[1] })
	l := []flaw{{api.ErrLarge, func(g *given) { g.job.Stock = append(g.job.Stock, make([]api.Board, 100)...) }}}
	l = slices.Concat(l, first, second)
	l = append(l, flaw{api.ErrExists, func(g *given) { g.job.Stock[1].Name = g.job.Stock[0].Name }})
	l = slices.Concat(l, blankFlaws())
	l = append(l, flaw{api.ErrLarge, func(g *given) {
		for i := range 6 {
			g.job.Blanks = append(g.job.Blanks, wanted(string(rune('r'+i)), 1, 1, 200))
		}
	}})
	return slices.Concat(l, trimFlaws(func(g *given) *api.Trim { return &g.job.Trim }))
}

// layoutFlaws are those of regions like those of good.
func layoutFlaws(of func(g *given) *api.Layout) []flaw {
	cut := func(n int) func(g *given) *api.Cut { return func(g *given) *api.Cut { return &of(g).Cuts[n] } }
	return []flaw{
		{api.ErrForm, func(g *given) { cut(0)(g).Blank = 1 }},
		{api.ErrOrder, func(g *given) { cut(0)(g).Low = -1 }},
		{api.ErrMissing, func(g *given) { cut(0)(g).High = 9 }},
		{api.ErrForm, func(g *given) { cut(1)(g).Blank = -1 }},
		{api.ErrOrder, func(g *given) { cut(1)(g).Low = 1 }},
		{api.ErrExists, func(g *given) { cut(1)(g).High = 2 }},
		{api.ErrForm, func(g *given) { cut(2)(g).At = 1 }},
		{api.ErrRange, func(g *given) { cut(2)(g).Blank = 30 }},
		{api.ErrForm, func(g *given) { cut(3)(g).High = 1 }},
		{api.ErrRange, func(g *given) { cut(4)(g).Blank = -2 }},
		{api.ErrShape, func(g *given) { of(g).Cuts = append(of(g).Cuts, waste(), waste()) }},
		{api.ErrRange, func(g *given) { cut(0)(g).At = 100 }},
		{api.ErrRange, func(g *given) { cut(1)(g).At = 0 }},
	}
}

func planFlaws() []flaw {
	l := layoutFlaws(func(g *given) *api.Layout { return &g.plan[0] })
	l = append([]flaw{{api.ErrMissing, func(g *given) { g.plan[0].Board = 3 }}}, l...)
	l = append(l,
		flaw{api.ErrMissing, func(g *given) { g.plan[1].Board = -1 }},
		flaw{api.ErrExists, func(g *given) { g.plan[1].Board = g.plan[0].Board }},
	)
	return slices.Concat(l, layoutFlaws(func(g *given) *api.Layout { return &g.plan[1] }))
}

// countFlaws are those of the pieces of a plan, behind all others.
func countFlaws() []flaw {
	return []flaw{
		{api.ErrGap, func(g *given) { g.job.Blanks[1].Count = 3 }},
		{api.ErrClash, func(g *given) { g.job.Blanks[0].Count = 1 }},
	}
}

func oneOf(want api.Errno, spoil ...func(g *given)) []flaw {
	var l []flaw
	for _, f := range spoil {
		l = append(l, flaw{want, f})
	}
	return l
}

func crossFlaws() []flaw {
	return slices.Concat(
		oneOf(api.ErrLarge,
			func(g *given) { g.cross.Stock = append(g.cross.Stock, make([]int, 9)...) },
			func(g *given) { g.cross.Lengths = append(g.cross.Lengths, make([]int, 8)...) }),
		oneOf(api.ErrRange,
			func(g *given) { g.cross.Stock[1] = 0 },
			func(g *given) { g.cross.Lengths[0] = 600001 },
			func(g *given) { g.cross.Kerf = 10001 }),
	)
}

func flitchFlaws() []flaw {
	return slices.Concat(
		oneOf(api.ErrLarge, func(g *given) { g.flitch = append(g.flitch, make([]int, 400)...) }),
		oneOf(api.ErrRange, func(g *given) { g.flitch[4] = 100001 }, func(g *given) { g.flitch[0] = 0 }),
		oneOf(api.ErrOrder, func(g *given) { g.flitch[0] = 4 }),
	)
}

func faces() []flaw { return oneOf(api.ErrRange, func(g *given) { g.faces = 401 }) }

func printFlaws() []flaw {
	return slices.Concat(
		oneOf(api.ErrLarge,
			func(g *given) { g.printed = append(g.printed, make([]api.Layout, 99)...) },
			func(g *given) { g.printed[0].Cuts = append(g.printed[0].Cuts, make([]api.Cut, 396)...) }),
		oneOf(api.ErrRange,
			func(g *given) { g.printed[0].Board = -1 },
			func(g *given) { g.printed[0].Cuts[0].At = 10000000 }),
		oneOf(api.ErrForm, func(g *given) { g.printed[0].Cuts[0].Blank = -1 }),
		oneOf(api.ErrRange, func(g *given) { g.printed[0].Cuts[3].Blank = -2 }),
		oneOf(api.ErrForm, func(g *given) { g.printed[0].Cuts[3].At = 1 }),
		oneOf(api.ErrLarge, func(g *given) { g.printed[1].Cuts = append(g.printed[1].Cuts, make([]api.Cut, 396)...) }),
		oneOf(api.ErrRange, func(g *given) { g.printed[1].Board = 10000000 }),
	)
}

// call is a function with all flaws that it looks for, in their order.
type call struct {
	of    func(g given) []any
	flaws [][]flaw
}

func results(l ...any) []any { return l }

// boardCalls are the functions of boards, layouts and plans.
func boardCalls() map[string]call {
	alone := slices.Concat(boardFlaws(func(g *given) *api.Board { return &g.board }), trimFlaws(func(g *given) *api.Trim { return &g.trim }))
	laid := layoutFlaws(func(g *given) *api.Layout { return &g.layout })
	planned := [][]flaw{jobFlaws(), planFlaws(), countFlaws()}
	return map[string]call{
		"CheckBlanks": {func(g given) []any { return results(cutting.CheckBlanks(g.job.Blanks)) }, [][]flaw{blankFlaws()}},
		"CheckTrim":   {func(g given) []any { return results(cutting.CheckTrim(g.trim)) }, [][]flaw{trimFlaws(func(g *given) *api.Trim { return &g.trim })}},
		"CheckJob":    {func(g given) []any { return results(cutting.CheckJob(g.job)) }, [][]flaw{jobFlaws()}},
		"Usable":      {func(g given) []any { r, e := cutting.Usable(g.board, g.trim); return results(r, e) }, [][]flaw{alone}},
		"CheckLayout": {func(g given) []any { return results(cutting.CheckLayout(g.board, g.trim, g.layout)) }, [][]flaw{alone, laid}},
		"Regions": {func(g given) []any {
			l, e := cutting.Regions(g.board, g.trim, g.layout)
			return results(l, e)
		}, [][]flaw{alone, laid}},
		"CheckPlan": {func(g given) []any { p, e := cutting.CheckPlan(g.job, g.plan); return results(p, e) }, planned},
		"Places":    {func(g given) []any { l, e := cutting.Places(g.job, g.plan); return results(l, e) }, planned},
		"AreasOf":   {func(g given) []any { a, e := cutting.AreasOf(g.job, g.plan); return results(a, e) }, planned},
		"Offcuts": {func(g given) []any {
			l, e := cutting.Offcuts(g.job, g.plan, g.least)
			return results(l, e)
		}, append(slices.Clip(planned), oneOf(api.ErrRange, func(g *given) { g.least[0] = 0 }, func(g *given) { g.least[1] = 600001 }))},
	}
}

// boundCalls are the functions of greedy plans, bounds and weights.
func boundCalls() map[string]call {
	none := oneOf(api.ErrNone, func(g *given) { g.job.Blanks[0].Length = 101 }, func(g *given) { g.job.Blanks[1].Width = 41 })
	noK := oneOf(api.ErrRange, func(g *given) { g.k[0] = 21 }, func(g *given) { g.k[1] = -1 })
	much := oneOf(api.ErrNone, func(g *given) { g.job.Blanks[0].Count = 99 })
	return map[string]call{
		"Greedy":    {func(g given) []any { l, e := cutting.Greedy(g.job); return results(l, e) }, [][]flaw{jobFlaws(), none, much}},
		"Choose":    {func(g given) []any { l, e := cutting.Choose(g.job); return results(l, e) }, [][]flaw{jobFlaws(), none, much}},
		"AreaBound": {func(g given) []any { n, e := cutting.AreaBound(g.job); return results(n, e) }, [][]flaw{jobFlaws(), much}},
		"Weights":   {func(g given) []any { l, e := cutting.Weights(g.job, g.k); return results(l, e) }, [][]flaw{jobFlaws(), noK, none}},
		"Bound":     {func(g given) []any { n, e := cutting.Bound(g.job, g.k); return results(n, e) }, [][]flaw{jobFlaws(), noK, none}},
		"BestBound": {func(g given) []any { n, k, e := cutting.BestBound(g.job); return results(n, k, e) }, [][]flaw{jobFlaws(), none, much}},
		"Weight": {func(g given) []any { f, e := cutting.Weight(g.n, g.num, g.den); return results(f, e) }, [][]flaw{
			oneOf(api.ErrRange, func(g *given) { g.n = 21 }, func(g *given) { g.den = 0 }, func(g *given) { g.num = 8 }),
		}},
	}
}

// listCalls are the functions of bars, veneers and texts.
func listCalls() map[string]call {
	lists := slices.Concat(
		oneOf(api.ErrShape, func(g *given) { g.lists = append(g.lists, nil) }),
		oneOf(api.ErrMissing, func(g *given) { g.lists[0] = []int{3, 0} }),
		oneOf(api.ErrOrder, func(g *given) { g.lists[0] = []int{1, 0, 2} }),
		oneOf(api.ErrLarge, func(g *given) { g.lists[0] = []int{0, 1, 2} }),
		oneOf(api.ErrExists, func(g *given) { g.lists[1] = []int{2} }),
		oneOf(api.ErrGap, func(g *given) { g.lists[1] = nil }),
	)
	matches := slices.Concat(
		oneOf(api.ErrShape, func(g *given) { g.veneer.Leaves = nil }, func(g *given) { g.veneer.Flip = nil }),
		oneOf(api.ErrMissing, func(g *given) { g.veneer.Leaves[2] = 9 }),
		oneOf(api.ErrOrder, func(g *given) { g.veneer.Leaves[0] = 4 }),
		oneOf(api.ErrForm, func(g *given) { g.veneer.Flip[2] = true }),
	)
	return map[string]call{
		"Crosscut": {func(g given) []any { l, e := cutting.Crosscut(g.cross); return results(l, e) }, [][]flaw{
			crossFlaws(), oneOf(api.ErrNone, func(g *given) { g.cross.Lengths[0] = 101 }),
		}},
		"CheckCrosscut": {func(g given) []any { n, e := cutting.CheckCrosscut(g.cross, g.lists); return results(n, e) }, [][]flaw{crossFlaws(), lists}},
		"LeastBars": {func(g given) []any { n, e := cutting.LeastBars(g.cross); return results(n, e) }, [][]flaw{
			crossFlaws(), oneOf(api.ErrNone, func(g *given) { g.cross.Lengths[1] = 151 }),
		}},
		"Leaves": {func(g given) []any { n, e := cutting.Leaves(g.flitch, g.faces); return results(n, e) }, [][]flaw{
			flitchFlaws(), faces(), oneOf(api.ErrNone, func(g *given) { g.faces = 4 }),
		}},
		"Match": {func(g given) []any { v, e := cutting.Match(g.flitch, g.from, g.faces); return results(v, e) }, [][]flaw{
			flitchFlaws(), faces(), oneOf(api.ErrMissing, func(g *given) { g.from = -1 }), oneOf(api.ErrOrder, func(g *given) { g.from = 1 }),
		}},
		"CheckMatch": {func(g given) []any { return results(cutting.CheckMatch(g.flitch, g.veneer)) }, [][]flaw{flitchFlaws(), matches}},
		"Print":      {func(g given) []any { s, e := cutting.Print(g.printed); return results(s, e) }, [][]flaw{printFlaws()}},
	}
}

// R1: if several errors apply, the one that the chapter lists first is returned, and the other results are zero values.
func TestErrors(t *testing.T) {
	for _, calls := range []map[string]call{boardCalls(), boundCalls(), listCalls()} {
		for name, c := range calls {
			checkErrors(t, name, c.of, slices.Concat(c.flaws...))
		}
	}
}

// checkErrors tests a function with each flaw, and with each two of them.
func checkErrors(t *testing.T, name string, call func(g given) []any, flaws []flaw) {
	t.Helper()
	if e := errorOf(t, name, call(good())); e != api.OK {
		t.Errorf("%s: %d without a flaw", name, e)
	}
	for i, first := range flaws {
		for j, second := range flaws[i:] {
			g := good()
			if j > 0 {
				second.make(&g)
			}
			first.make(&g)
			if e := errorOf(t, name, call(g)); e != first.want {
				t.Errorf("%s, flaws %d and %d: %d, want %d", name, i, i+j, e, first.want)
			}
		}
	}
}

// errorOf returns the error of a call; beside an error all other results have to be zero values.
func errorOf(t *testing.T, what string, l []any) api.Errno {
	t.Helper()
	e := l[len(l)-1].(api.Errno)
	for _, x := range l[:len(l)-1] {
		if v := reflect.ValueOf(x); e != api.OK && !v.IsZero() && (v.Kind() != reflect.Slice || v.Len() > 0) {
			t.Errorf("%s: %v beside the error %d", what, x, e)
		}
	}
	return e
}
