package timber_test

import (
	"slices"
	"strconv"
	"testing"

	"spokeshave/api"
	"spokeshave/timber"
)

// boardFields are the numbers of a board with their ranges.
func boardFields() []field[api.Board] {
	return []field[api.Board]{
		{"Length", func(b *api.Board) *int { return &b.Length }, 1, 600000},
		{"Width", func(b *api.Board) *int { return &b.Width }, 1, 100000},
		{"Thick", func(b *api.Board) *int { return &b.Thick }, 1, 20000},
		{"Cut", func(b *api.Board) *int { return &b.Cut }, 0, 1},
		{"Moisture", func(b *api.Board) *int { return &b.Moisture }, 0, 400},
	}
}

// ofBoard are all functions of a board: those of a board alone, and those that look for its species, too.
func ofBoard() (alone, listed map[string]func(l []api.Species, b api.Board) api.Errno) {
	alone = map[string]func(l []api.Species, b api.Board) api.Errno{
		"Area":      func(_ []api.Species, b api.Board) api.Errno { _, e := timber.Area(b); return e },
		"Defective": func(_ []api.Species, b api.Board) api.Errno { _, e := timber.Defective(b); return e },
		"Sound": func(_ []api.Species, b api.Board) api.Errno {
			_, e := timber.Sound(b, api.Rect{X2: 1, Y2: 1})
			return e
		},
		"Clear":  func(_ []api.Species, b api.Board) api.Errno { _, e := timber.Clear(b); return e },
		"Widest": func(_ []api.Species, b api.Board) api.Errno { _, e := timber.Widest(b, 1); return e },
		"GradeOf": func(_ []api.Species, b api.Board) api.Errno {
			_, e := timber.GradeOf(b, []api.Grade{{Name: "any", Most: 60, Share: 1000}})
			return e
		},
	}
	listed = map[string]func(l []api.Species, b api.Board) api.Errno{
		"CheckBoard": timber.CheckBoard,
		"CheckStock": func(l []api.Species, b api.Board) api.Errno { return timber.CheckStock(l, []api.Board{b}) },
		"Sizes":      func(l []api.Species, b api.Board) api.Errno { _, e := timber.Sizes(l, b, 80); return e },
		"Mass":       func(l []api.Species, b api.Board) api.Errno { _, e := timber.Mass(l, b); return e },
		"Fitting": func(l []api.Species, b api.Board) api.Errno {
			_, e := timber.Fitting(l, []api.Board{b}, api.Blank{Name: "leg", Species: "oak", Length: 1, Width: 1, Thick: 1, Count: 1})
			return e
		},
		"Print": func(l []api.Species, b api.Board) api.Errno { _, e := timber.Print(l, []api.Board{b}); return e },
	}
	return alone, listed
}

// checkAll tests the error of a board with all functions.
func checkAll(t *testing.T, what string, l []api.Species, b api.Board, want api.Errno) {
	t.Helper()
	alone, listed := ofBoard()
	for name, call := range alone {
		if e := call(l, b); e != want && want != api.ErrMissing {
			t.Errorf("%s, %s: %d, want %d", name, what, e, want)
		}
	}
	for name, call := range listed {
		if e := call(l, b); e != want {
			t.Errorf("%s, %s: %d, want %d", name, what, e, want)
		}
	}
}

// P2.2: the ranges of a board.
func TestRangesOfBoard(t *testing.T) {
	for _, f := range boardFields() {
		for n, want := range map[int]api.Errno{f.low - 1: api.ErrRange, f.low: api.OK, f.high: api.OK, f.high + 1: api.ErrRange} {
			b := plain("one", "oak", 100, 40)
			*f.of(&b) = n
			checkAll(t, f.name+" "+strconv.Itoa(n), woods(), b, want)
		}
	}
}

// P2.2: names, and species that are not there.
func TestNamesOfBoard(t *testing.T) {
	for name, is := range names() {
		want, missing := api.ErrName, api.ErrName
		if is {
			want, missing = api.OK, api.ErrMissing
		}
		checkAll(t, "the name "+strconv.Quote(name), woods(), plain(name, "oak", 100, 40), want)
		checkAll(t, "the species "+strconv.Quote(name), woods(), plain("one", name, 100, 40), missing)
	}
}

// P2.2: defects.
func TestDefectsOfBoard(t *testing.T) {
	b := plain("one", "oak", 100, 40)
	for name, x := range map[string]struct {
		b    api.Board
		want api.Errno
	}{
		"all of it":         {with(b, api.Rect{X2: 100, Y2: 40}), api.OK},
		"the first spot":    {with(b, api.Rect{X2: 1, Y2: 1}), api.OK},
		"the last spot":     {with(b, api.Rect{X1: 99, Y1: 39, X2: 100, Y2: 40}), api.OK},
		"no length":         {with(b, api.Rect{X1: 5, Y1: 3, X2: 5, Y2: 4}), api.ErrForm},
		"turned length":     {with(b, api.Rect{X1: 5, Y1: 3, X2: 4, Y2: 4}), api.ErrForm},
		"no width":          {with(b, api.Rect{X1: 5, Y1: 3, X2: 6, Y2: 3}), api.ErrForm},
		"turned width":      {with(b, api.Rect{X1: 5, Y1: 3, X2: 6, Y2: 2}), api.ErrForm},
		"ahead of it":       {with(b, api.Rect{X1: -1, X2: 1, Y2: 1}), api.ErrRange},
		"behind it":         {with(b, api.Rect{X1: 99, X2: 101, Y2: 1}), api.ErrRange},
		"below it":          {with(b, api.Rect{Y1: -1, X2: 1, Y2: 1}), api.ErrRange},
		"above it":          {with(b, api.Rect{X2: 1, Y1: 39, Y2: 41}), api.ErrRange},
		"form ahead":        {with(b, api.Rect{X1: -1, X2: -1, Y2: 41}), api.ErrForm},
		"form, then range":  {with(b, api.Rect{}, api.Rect{X1: -1, X2: 1, Y2: 1}), api.ErrForm},
		"range, then form":  {with(b, api.Rect{X1: -1, X2: 1, Y2: 1}, api.Rect{}), api.ErrRange},
		"the second wrong":  {with(b, api.Rect{X2: 1, Y2: 1}, api.Rect{}), api.ErrForm},
		"twice the same":    {with(b, api.Rect{X2: 1, Y2: 1}, api.Rect{X2: 1, Y2: 1}), api.OK},
		"60 defects":        {with(b, slices.Repeat([]api.Rect{{X2: 1, Y2: 1}}, 60)...), api.OK},
		"61 defects":        {with(b, slices.Repeat([]api.Rect{{X2: 1, Y2: 1}}, 61)...), api.ErrLarge},
		"61 defects, wrong": {with(b, make([]api.Rect, 61)...), api.ErrLarge},
	} {
		if name == "all of it" { // Widest has no result
			if e := timber.CheckBoard(woods(), x.b); e != x.want {
				t.Errorf("%s: %d, want %d", name, e, x.want)
			}
			continue
		}
		checkAll(t, name, woods(), x.b, x.want)
	}
}

// P2.2: which error of a board comes first.
func TestOrderOfErrorsOfBoard(t *testing.T) {
	b := api.Board{Name: "a b", Species: "elm", Defects: make([]api.Rect, 61)}
	for _, step := range []struct {
		want api.Errno
		mend func()
	}{
		{api.ErrName, func() { b.Name = "one" }},
		{api.ErrRange, func() { b.Length, b.Width, b.Thick = 100, 40, 20 }},
		{api.ErrLarge, func() { b.Defects = b.Defects[:1] }},
		{api.ErrForm, func() { b.Defects[0] = api.Rect{X2: 101, Y2: 1} }},
		{api.ErrRange, func() { b.Defects = nil }},
		{api.ErrMissing, func() { b.Species = "ash" }},
		{api.OK, func() {}},
	} {
		checkAll(t, "step by step", woods(), b, step.want)
		step.mend()
	}
	wrong := []api.Species{oak(), {}}
	_, listed := ofBoard()
	for name, call := range listed {
		if e := call(wrong, api.Board{Length: -1}); e != api.ErrName {
			t.Errorf("%s: %d, want that of the species", name, e)
		}
		if e := call(many(41), api.Board{}); e != api.ErrLarge {
			t.Errorf("%s: %d, want that of the species", name, e)
		}
		if e := call(nil, plain("one", "oak", 10, 10)); e != api.ErrMissing {
			t.Errorf("%s: %d, want that no species is there", name, e)
		}
	}
}

// boards returns boards with different names.
func boards(n int) []api.Board {
	var stock []api.Board
	for i := range n {
		stock = append(stock, plain("b"+strconv.Itoa(i), "oak", 100, 40))
	}
	return stock
}

// P2.2: which error of a stock comes first.
func TestCheckStock(t *testing.T) {
	one := plain("one", "oak", 100, 40)
	long, strange, nameless := one, one, one
	long.Length, strange.Species, nameless.Name = 600001, "elm", "1"
	for name, x := range map[string]struct {
		l     []api.Species
		stock []api.Board
		want  api.Errno
	}{
		"nothing":              {nil, nil, api.OK},
		"no board":             {woods(), nil, api.OK},
		"100 boards":           {woods(), boards(100), api.OK},
		"101 boards":           {woods(), boards(101), api.ErrLarge},
		"101 wrong boards":     {woods(), make([]api.Board, 101), api.ErrLarge},
		"species ahead":        {[]api.Species{{}}, make([]api.Board, 101), api.ErrName},
		"no species":           {nil, []api.Board{one}, api.ErrMissing},
		"twice":                {woods(), []api.Board{one, one}, api.ErrExists},
		"twice, apart":         {woods(), append(boards(3), plain("b0", "ash", 1, 1)), api.ErrExists},
		"range ahead of twice": {woods(), []api.Board{one, long}, api.ErrRange},
		"missing ahead":        {woods(), []api.Board{one, strange}, api.ErrMissing},
		"twice ahead of next":  {woods(), []api.Board{one, one, nameless}, api.ErrExists},
		"missing, then name":   {woods(), []api.Board{strange, nameless}, api.ErrMissing},
		"name, then missing":   {woods(), []api.Board{nameless, strange}, api.ErrName},
		"named as a species":   {woods(), []api.Board{plain("oak", "oak", 1, 1)}, api.OK},
	} {
		if e := timber.CheckStock(x.l, x.stock); e != x.want {
			t.Errorf("%s: %d, want %d", name, e, x.want)
		}
		if _, e := timber.Print(x.l, x.stock); e != x.want {
			t.Errorf("Print, %s: %d, want %d", name, e, x.want)
		}
		if chosen, e := timber.Fitting(x.l, x.stock, api.Blank{}); x.want != api.OK && (e != x.want || chosen != nil) {
			t.Errorf("Fitting, %s: %v, %d, want %d", name, chosen, e, x.want)
		}
	}
}
