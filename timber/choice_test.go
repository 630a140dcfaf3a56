package timber_test

import (
	"math"
	"slices"
	"testing"

	"spokeshave/api"
	"spokeshave/timber"
)

func leg() api.Blank {
	return api.Blank{Name: "leg", Species: "oak", Length: 40, Width: 30, Thick: 20, Count: 4}
}

// P2.7: which boards fit.
func TestFitting(t *testing.T) {
	thin, thick := plain("thin", "oak", 100, 40), plain("thick", "oak", 100, 40)
	thin.Thick, thick.Thick = 19, 21
	stock := []api.Board{
		plain("just", "oak", 40, 30),
		plain("short", "oak", 39, 40),
		plain("narrow", "oak", 100, 29),
		plain("ash", "ash", 100, 40),
		thin,
		thick,
		spotted(),
		with(plain("knotty", "oak", 80, 30), api.Rect{X1: 39, X2: 41, Y2: 1}),
		with(plain("half", "oak", 80, 30), api.Rect{X1: 38, X2: 40, Y2: 1}),
		with(plain("split", "oak", 100, 60), api.Rect{Y1: 30, X2: 100, Y2: 31}),
		with(plain("cracked", "oak", 100, 59), api.Rect{Y1: 29, X2: 100, Y2: 30}),
	}
	if l, e := timber.Fitting(woods(), stock, leg()); !slices.Equal(l, []int{0, 5, 6, 8, 9}) || e != api.OK {
		t.Errorf("%v, %d", l, e)
	}
	want := leg()
	want.Species = "elm"
	if l, e := timber.Fitting(woods(), stock, want); len(l) != 0 || e != api.OK {
		t.Errorf("of a species that is not there: %v, %d", l, e)
	}
	if l, e := timber.Fitting(nil, nil, leg()); len(l) != 0 || e != api.OK {
		t.Errorf("of no boards: %v, %d", l, e)
	}
}

// P2.7: a board fits if some rectangle of the blank's size is sound.
func TestFittingByDefinition(t *testing.T) {
	random := steadily(7)
	for range 500 {
		var stock []api.Board
		var want []int
		blank := leg()
		blank.Length, blank.Width, blank.Thick = 1+random.IntN(8), 1+random.IntN(5), 1+random.IntN(3)
		for i := range random.IntN(6) {
			b := anyBoard(random)
			b.Name, b.Species, b.Thick = string(rune('a'+i)), woods()[random.IntN(2)].Name, 1+random.IntN(3)
			stock = append(stock, b)
			if b.Species != "oak" || b.Thick < blank.Thick || b.Length < blank.Length {
				continue
			}
			if r, found := widestOf(b, blank.Length); found && r.Y2-r.Y1 >= blank.Width {
				want = append(want, i)
			}
		}
		if l, e := timber.Fitting(woods(), stock, blank); !slices.Equal(l, want) || e != api.OK {
			t.Fatalf("%v of %v: %v, %d, want %v", blank, stock, l, e, want)
		}
	}
}

// P2.7: wrong blanks.
func TestFittingErrors(t *testing.T) {
	stock := []api.Board{spotted()}
	for _, f := range []field[api.Blank]{
		{"Length", func(b *api.Blank) *int { return &b.Length }, 1, 600000},
		{"Width", func(b *api.Blank) *int { return &b.Width }, 1, 600000},
		{"Thick", func(b *api.Blank) *int { return &b.Thick }, 1, 600000},
		{"Count", func(b *api.Blank) *int { return &b.Count }, 1, 200},
	} {
		for n, want := range map[int]api.Errno{f.low - 1: api.ErrRange, f.low: api.OK, f.high: api.OK, f.high + 1: api.ErrRange, math.MinInt: api.ErrRange} {
			b := leg()
			*f.of(&b) = n
			if l, e := timber.Fitting(woods(), stock, b); e != want || e != api.OK && l != nil {
				t.Errorf("%s %d: %v, %d, want %d", f.name, n, l, e, want)
			}
			b.Species = ""
			if _, e := timber.Fitting(woods(), stock, b); e != api.ErrName {
				t.Errorf("%s %d: %d, want that of the name", f.name, n, e)
			}
		}
	}
	for name, is := range names() {
		want := api.ErrName
		if is {
			want = api.OK
		}
		b := leg()
		b.Name = name
		if _, e := timber.Fitting(woods(), stock, b); e != want {
			t.Errorf("the name %q: %d, want %d", name, e, want)
		}
		b = leg()
		b.Species = name
		if _, e := timber.Fitting(woods(), stock, b); e != want {
			t.Errorf("the species %q: %d, want %d", name, e, want)
		}
	}
}
