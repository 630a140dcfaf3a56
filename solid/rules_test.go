package solid_test

import (
	"math"
	"reflect"
	"slices"
	"strings"
	"testing"

	"spokeshave/api"
	"spokeshave/solid"
)

// given is arguments for every function of the package.
type given struct {
	A, B    api.Solid
	Cell    api.Cell
	Plane   api.Plane
	Corner  api.Corner
	Overlap api.Overlap
	Box     api.Box
	List    []api.Point
	Ends    [2]int
	Vector  [3]int
	N, M    int
	Text    string
}

// functions has all functions of the package; each one returns all results.
var functions = map[string]func(g given) []any{
	"CheckPlane":   func(g given) []any { return results(solid.CheckPlane(g.Plane)) },
	"CheckCell":    func(g given) []any { return results(solid.CheckCell(g.Cell)) },
	"Check":        func(g given) []any { return results(solid.Check(g.A)) },
	"Normal":       func(g given) []any { x, e := solid.Normal(g.Cell); return results(x, e) },
	"Corners":      func(g given) []any { x, e := solid.Corners(g.Cell); return results(x, e) },
	"Side":         func(g given) []any { x, e := solid.Side(g.Plane, g.Corner); return results(x, e) },
	"Where":        func(g given) []any { x, e := solid.Where(g.A, g.Corner); return results(x, e) },
	"OfBox":        func(g given) []any { x, e := solid.OfBox(g.Box); return results(x, e) },
	"Prism":        func(g given) []any { x, e := solid.Prism(g.N, g.List, g.Ends); return results(x, e) },
	"Bounds":       func(g given) []any { x, e := solid.Bounds(g.A); return results(x, e) },
	"Meet":         func(g given) []any { x, e := solid.Meet(g.A, g.B); return results(x, e) },
	"Join":         func(g given) []any { x, e := solid.Join(g.A, g.B); return results(x, e) },
	"Minus":        func(g given) []any { x, e := solid.Minus(g.A, g.B); return results(x, e) },
	"Clashes":      func(g given) []any { x, is, e := solid.Clashes(g.A, g.B); return results(x, is, e) },
	"CheckOverlap": func(g given) []any { return results(solid.CheckOverlap(g.A, g.B, g.Overlap)) },
	"Covers":       func(g given) []any { x, e := solid.Covers(g.A, g.B); return results(x, e) },
	"Same":         func(g given) []any { x, e := solid.Same(g.A, g.B); return results(x, e) },
	"Touches":      func(g given) []any { x, e := solid.Touches(g.A, g.B); return results(x, e) },
	"Volume":       func(g given) []any { x, e := solid.Volume(g.A); return results(x, e) },
	"Move":         func(g given) []any { x, e := solid.Move(g.A, g.Vector); return results(x, e) },
	"Turn":         func(g given) []any { x, e := solid.Turn(g.A, g.N); return results(x, e) },
	"Turned":       func(g given) []any { x, e := solid.Turned(g.Vector, g.N); return results(x, e) },
	"Both":         func(g given) []any { x, e := solid.Both(g.N, g.M); return results(x, e) },
	"Print":        func(g given) []any { x, e := solid.Print(g.A); return results(x, e) },
	"Parse":        func(g given) []any { x, line, e := solid.Parse(g.Text); return results(x, line, e) },
}

func results(l ...any) []any { return l }

// good returns arguments with which every function returns OK.
func good(t *testing.T) given {
	t.Helper()
	a := union(cube(t, 0, 4), cube(t, 2, 6), box(t, -2, 0, 0, 0, 3, 3))
	b := union(box(t, 4, 0, 0, 6, 2, 2), cube(t, 3, 5), cube(t, 6, 8), one(with(cellBox(1), api.Plane{A: 2, D: 2})))
	o, is, e := solid.Clashes(a, b)
	if !is || e != api.OK {
		t.Fatalf("clashes: %v, %d", is, e)
	}
	text, _ := solid.Print(b)
	return given{
		A: a, B: b, Cell: fourteen(), Plane: api.Plane{A: 1, B: 2, D: 3}, Corner: api.Corner{X: 1, Den: 2},
		Overlap: o, Box: api.Box{X2: 1, Y2: 2, Z2: 3}, List: slices.Clone(ring), Ends: [2]int{0, 5},
		Vector: [3]int{1, -2, 3}, N: 2, M: 30, Text: text,
	}
}

// R3: no function writes into its arguments, and no list of a result shares memory with them or with another list.
func TestMemory(t *testing.T) {
	for name, call := range functions {
		g, before := good(t), good(t)
		l := call(g)
		if !alike(g, before) {
			t.Errorf("%s: changes its arguments", name)
		}
		if e := l[len(l)-1]; e != api.OK {
			t.Errorf("%s: %d", name, e)
		}
		spans := spansOf(reflect.ValueOf(g))
		for _, x := range l {
			spans = append(spans, spansOf(reflect.ValueOf(x))...)
		}
		// Lists of the arguments share nothing with each other here, so that no two of all lists may.
		slices.SortFunc(spans, func(a, b [2]uintptr) int { return int(a[0]) - int(b[0]) })
		for i := range spans[1:] {
			if spans[i][1] > spans[i+1][0] {
				t.Errorf("%s: lists share memory", name)
			}
		}
	}
}

// spansOf returns where the memory of each list begins and ends, with what appending may use.
func spansOf(v reflect.Value) [][2]uintptr {
	var spans [][2]uintptr
	switch v.Kind() {
	case reflect.Slice:
		if size := uintptr(v.Cap()) * v.Type().Elem().Size(); size > 0 {
			spans = append(spans, [2]uintptr{v.Pointer(), v.Pointer() + size})
		}
		for i := range v.Len() {
			spans = append(spans, spansOf(v.Index(i))...)
		}
	case reflect.Struct:
		for i := range v.NumField() {
			spans = append(spans, spansOf(v.Field(i))...)
		}
	}
	return spans
}

// R4: the same call has the same results, whatever was called between.
func TestResultsDependOnArguments(t *testing.T) {
	first := map[string][]any{}
	for name, call := range functions {
		first[name] = call(good(t))
	}
	for name, call := range functions {
		if again := call(good(t)); !reflect.DeepEqual(again, first[name]) {
			t.Errorf("%s: %v, then %v", name, first[name], again)
		}
	}
}

// R1: beside an error the other results are zero values; the error of the first argument comes first.
func TestErrors(t *testing.T) {
	open, large := one(api.Cell{}), api.Solid{Cells: make([]api.Cell, 101)}
	for name, call := range functions {
		g := given{A: open, B: large, Cell: api.Cell{Planes: make([]api.Plane, 17)}, N: -1, Text: "cell\n"}
		l := call(g)
		if e := l[len(l)-1]; e == api.OK {
			t.Errorf("%s: no error", name)
		}
		for _, x := range l[:len(l)-1] {
			if !alike(x, reflect.Zero(reflect.TypeOf(x)).Interface()) {
				t.Errorf("%s: %v beside an error", name, x)
			}
		}
	}
	for _, name := range []string{"Meet", "Join", "Minus", "Clashes", "CheckOverlap", "Covers", "Same", "Touches"} {
		for _, x := range []struct {
			a, b api.Solid
			want api.Errno
		}{{open, large, api.ErrOpen}, {large, open, api.ErrLarge}, {cube(t, 0, 1), large, api.ErrLarge}, {cube(t, 0, 1), open, api.ErrOpen}} {
			l := functions[name](given{A: x.a, B: x.b})
			if e := l[len(l)-1]; e != x.want {
				t.Errorf("%s: %d, want %d", name, e, x.want)
			}
		}
	}
	for _, name := range []string{"Check", "Where", "Bounds", "Volume", "Move", "Turn", "Print"} {
		l := functions[name](given{A: open, N: 99, Vector: [3]int{math.MaxInt}})
		if e := l[len(l)-1]; e != api.ErrOpen {
			t.Errorf("%s: %d, want that of Check", name, e)
		}
	}
	for _, name := range []string{"CheckCell", "Normal", "Corners"} {
		l := functions[name](given{})
		if e := l[len(l)-1]; e != api.ErrOpen {
			t.Errorf("%s: %d, want that of CheckCell", name, e)
		}
	}
}

// R5: a nil list and an empty one are the same.
func TestEmptyLists(t *testing.T) {
	for name, call := range functions {
		g, h := good(t), good(t)
		g.A, g.B, g.Overlap.Corners, g.List = api.Solid{}, one(api.Cell{}), nil, nil
		h.A, h.B, h.Overlap.Corners, h.List = api.Solid{Cells: []api.Cell{}}, one(api.Cell{Planes: []api.Plane{}}), []api.Corner{}, []api.Point{}
		if x, y := call(g), call(h); !alikeAll(x, y) {
			t.Errorf("%s: %v, but %v", name, x, y)
		}
	}
}

func alikeAll(a, b []any) bool {
	return slices.EqualFunc(a, b, alike)
}

// R2: no function panics, whatever its arguments are.
func TestNoPanic(t *testing.T) {
	s := seed(22)
	wild := []int{math.MinInt, math.MinInt + 1, -1 << 62, -300001, -300000, -9, -8, -2, -1, 0, 1, 2, 3, 5, 8, 9, 47, 48, 5000, 300000, 300001, 10000000, 1 << 32, 1 << 62, math.MaxInt}
	number := func() int {
		if s.number(0, 1) == 0 {
			return s.number(-3, 3)
		}
		return wild[s.number(0, len(wild)-1)]
	}
	plane := func() api.Plane { return api.Plane{A: number(), B: number(), C: number(), D: number()} }
	cell := func() api.Cell {
		c := api.Cell{Planes: slices.Clone(cellBox(4).Planes[:s.number(0, 6)])}
		for range s.number(0, 3) {
			c.Planes = append(c.Planes, plane())
		}
		return c
	}
	corner := func() api.Corner { return api.Corner{X: number(), Y: number(), Z: number(), Den: number()} }
	for range 2000 {
		g := given{Cell: cell(), Plane: plane(), Corner: corner(), N: number(), M: number()}
		for range s.number(0, 2) {
			g.A.Cells = append(g.A.Cells, cell())
			g.B.Cells = append(g.B.Cells, cell())
			g.Overlap.Corners = append(g.Overlap.Corners, corner())
		}
		g.Overlap.A, g.Overlap.B = number(), number()
		g.Box = api.Box{X1: number(), Y1: number(), Z1: number(), X2: number(), Y2: number(), Z2: number()}
		for range s.number(0, 5) {
			g.List = append(g.List, api.Point{X: number(), Y: number()})
		}
		g.Ends, g.Vector = [2]int{number(), number()}, [3]int{number(), number(), number()}
		g.Text = strings.Repeat("cell 1 -1 0 5\n", s.number(0, 3)) + unitText[s.number(0, 9):s.number(10, len(unitText))]
		for _, call := range functions {
			call(g)
		}
	}
}
