package solid_test

import (
	"math"
	"slices"
	"testing"

	"spokeshave/api"
	"spokeshave/solid"
)

// P1.8: movements.
func TestMove(t *testing.T) {
	c := with(cellBox(9), api.Plane{A: 1, B: -2, C: 3, D: 7}, api.Plane{A: 2, D: 50}, api.Plane{A: 1, D: 9})
	want := api.Cell{Planes: []api.Plane{
		{A: -1, D: -1}, {B: -1, D: 29}, {C: -1, D: 8}, {C: 1, D: 10}, {B: 1, D: -11}, {A: 1, D: 19},
		{A: 1, B: -2, C: 3, D: 60}, {A: 2, D: 70}, {A: 1, D: 19},
	}}
	if s, e := solid.Move(union(one(c), cube(t, 0, 1)), [3]int{10, -20, 1}); e != api.OK || !alike(s, union(one(want), box(t, 10, -20, 1, 11, -19, 2))) {
		t.Errorf("moved: %v, %d", s, e)
	}
	tip := one(api.Cell{Planes: []api.Plane{{A: -1}, {B: -1}, {C: -1}, {A: 2, B: 2, C: 2, D: 1}}})
	for name, x := range map[string]struct {
		s    api.Solid
		by   [3]int
		want api.Errno
	}{
		"by nothing":               {cube(t, 0, 1), [3]int{}, api.OK},
		"to the border":            {cube(t, 0, 1), [3]int{299999, -300000, 0}, api.OK},
		"beyond the border":        {cube(t, 0, 1), [3]int{0, 0, 300000}, api.ErrRange},
		"from border to border":    {cube(t, -300000, -299999), [3]int{599999, 599999, 599999}, api.OK},
		"a fraction to the border": {tip, [3]int{299999, 0, 0}, api.OK},
		"a fraction beyond":        {tip, [3]int{300000, 0, 0}, api.ErrRange},
		"one cell beyond":          {union(cube(t, 0, 1), cube(t, 5, 6)), [3]int{299995, 0, 0}, api.ErrRange},
		"nothing by 600000":        {api.Solid{}, [3]int{600000, -600000, 600000}, api.OK},
		"nothing by 600001":        {api.Solid{}, [3]int{0, 600001, 0}, api.ErrRange},
		"nothing by -600001":       {api.Solid{}, [3]int{0, 0, -600001}, api.ErrRange},
		"by the least number":      {cube(t, 0, 1), [3]int{math.MinInt}, api.ErrRange},
		"D of 10000000":            {one(with(cellBox(9), api.Plane{A: 8, D: 10000000 - 80})), [3]int{10, 0, 0}, api.OK},
		"D of 10000001":            {one(with(cellBox(9), api.Plane{A: 8, B: 1, D: 10000000 - 80})), [3]int{10, 1, 0}, api.ErrRange},
		"a large D that gets less": {one(with(cellBox(9), api.Plane{A: 8, D: 10000000})), [3]int{-10, 0, 0}, api.OK},
		"wrong, by wrong numbers":  {one(api.Cell{}), [3]int{600001}, api.ErrOpen},
	} {
		s, e := solid.Move(x.s, x.by)
		if e != x.want || e != api.OK && !alike(s, api.Solid{}) {
			t.Errorf("%s: %v, %d, want %d", name, s, e, x.want)
		}
	}
}

// listed has the images of (1, 2, 3) by some turns, from the order that the chapter states.
var listed = map[int][3]int{
	0: {1, 2, 3}, 1: {1, -2, -3}, 2: {-1, 2, -3}, 3: {-1, -2, 3},
	4: {1, 3, -2}, 5: {1, -3, 2}, 6: {-1, 3, 2}, 7: {-1, -3, -2},
	8: {2, 1, -3}, 12: {2, 3, 1}, 16: {3, 1, 2}, 20: {3, 2, -1}, 23: {-3, -2, -1},
	24: {1, 2, -3}, 25: {1, -2, 3}, 26: {-1, 2, 3}, 27: {-1, -2, -3},
	28: {1, 3, 2}, 32: {2, 1, 3}, 36: {2, 3, -1}, 40: {3, 1, -2}, 44: {3, 2, 1}, 47: {-3, -2, 1},
}

// P1.8: the numbers of the turns.
func TestTurned(t *testing.T) {
	for turn, want := range listed {
		if v, e := solid.Turned([3]int{1, 2, 3}, turn); v != want || e != api.OK {
			t.Errorf("turn %d: %v, %d, want %v", turn, v, e, want)
		}
	}
	// In both halves the turns ascend by what the chapter orders them by; so no turn is there twice.
	var last [6]int
	for turn := range 48 {
		v, e := solid.Turned([3]int{1, 2, 3}, turn)
		var key [6]int
		for i, n := range v {
			key[i], key[i+3] = max(n, -n), -n/max(n, -n)
		}
		if e != api.OK || turn%24 != 0 && slices.Compare(last[:], key[:]) >= 0 {
			t.Errorf("turn %d: %v, %d", turn, v, e)
		}
		last = key
		x, _ := solid.Turned([3]int{1, 0, 0}, turn)
		y, _ := solid.Turned([3]int{0, 1, 0}, turn)
		z, _ := solid.Turned([3]int{0, 0, 1}, turn)
		det := x[0]*(y[1]*z[2]-y[2]*z[1]) - x[1]*(y[0]*z[2]-y[2]*z[0]) + x[2]*(y[0]*z[1]-y[1]*z[0])
		if want := 1 - turn/24*2; det != want {
			t.Errorf("turn %d: determinant %d", turn, det)
		}
	}
	for _, x := range []struct {
		v    [3]int
		turn int
		want api.Errno
	}{
		{[3]int{600000, -600000, 0}, 47, api.OK},
		{[3]int{600001}, 0, api.ErrRange},
		{[3]int{0, -600001}, 0, api.ErrRange},
		{[3]int{0, 0, math.MinInt}, 0, api.ErrRange},
		{[3]int{1}, -1, api.ErrRange},
		{[3]int{1}, 48, api.ErrRange},
		{[3]int{1}, math.MaxInt, api.ErrRange},
	} {
		if v, e := solid.Turned(x.v, x.turn); e != x.want || e != api.OK && v != [3]int{} {
			t.Errorf("%v, %d: %v, %d, want %d", x.v, x.turn, v, e, x.want)
		}
	}
}

// P1.8: images of solids.
func TestTurn(t *testing.T) {
	c := with(cellBox(9), api.Plane{A: 1, B: -2, C: 3, D: 7}, api.Plane{A: 1, D: 9})
	// Turn 12 takes (x, y, z) to (y, z, x).
	want := api.Cell{Planes: []api.Plane{
		{C: -1, D: 9}, {A: -1, D: 9}, {B: -1, D: 9}, {B: 1, D: 9}, {A: 1, D: 9}, {C: 1, D: 9},
		{A: -2, B: 3, C: 1, D: 7}, {C: 1, D: 9},
	}}
	if s, e := solid.Turn(one(c), 12); e != api.OK || !alike(s, one(want)) {
		t.Errorf("turn 12: %v, %d", s, e)
	}
	s := seed(18)
	for turn := range 48 {
		a := s.solid(2, 20)
		image, e := solid.Turn(a, turn)
		if e != api.OK || len(image.Cells) != 2 {
			t.Fatalf("turn %d: %v, %d", turn, image, e)
		}
		for i, c := range a.Cells {
			var l []api.Corner
			for _, q := range corners(t, one(c)) {
				v, _ := solid.Turned([3]int{q.X, q.Y, q.Z}, turn)
				l = append(l, api.Corner{X: v[0], Y: v[1], Z: v[2], Den: q.Den})
			}
			for _, q := range corners(t, one(image.Cells[i])) {
				l = slices.DeleteFunc(l, func(c api.Corner) bool { return c == q })
			}
			if len(l) != 0 {
				t.Errorf("turn %d of %v: the corners %v are missing", turn, c, l)
			}
		}
	}
	for _, x := range []struct {
		s    api.Solid
		turn int
		want api.Errno
	}{
		{api.Solid{}, 47, api.OK},
		{api.Solid{}, 48, api.ErrRange},
		{cube(t, 0, 1), -1, api.ErrRange},
		{one(api.Cell{}), -1, api.ErrOpen},
	} {
		if s, e := solid.Turn(x.s, x.turn); e != x.want || !alike(s, api.Solid{}) {
			t.Errorf("turn %d: %v, %d, want %d", x.turn, s, e, x.want)
		}
	}
}

// P1.8: one turn behind another one.
func TestBoth(t *testing.T) {
	v := [3]int{1, 2, 3}
	for first := range 48 {
		for then := range 48 {
			n, e := solid.Both(first, then)
			got, f := solid.Turned(v, n)
			middle, _ := solid.Turned(v, first)
			want, _ := solid.Turned(middle, then)
			if e != api.OK || f != api.OK || got != want {
				t.Errorf("%d, then %d: %d, %d", first, then, n, e)
			}
		}
	}
	for _, x := range [][2]int{{-1, 0}, {48, 0}, {0, -1}, {0, 48}, {math.MinInt, math.MaxInt}} {
		if n, e := solid.Both(x[0], x[1]); n != 0 || e != api.ErrRange {
			t.Errorf("%v: %d, %d", x, n, e)
		}
	}
}
