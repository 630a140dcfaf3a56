package solid_test

import (
	"math"
	"testing"

	"spokeshave/api"
	"spokeshave/solid"
)

// R1: the errors of the first argument come first, whatever the other ones are.
func TestErrorsOfSolids(t *testing.T) {
	open, large, good := one(api.Cell{}), api.Solid{Cells: make([]api.Cell, 101)}, cube(t, 0, 1)
	for name, call := range map[string]func(a, b api.Solid) api.Errno{
		"Meet":         func(a, b api.Solid) api.Errno { _, e := solid.Meet(a, b); return e },
		"Join":         func(a, b api.Solid) api.Errno { _, e := solid.Join(a, b); return e },
		"Minus":        func(a, b api.Solid) api.Errno { _, e := solid.Minus(a, b); return e },
		"Clashes":      func(a, b api.Solid) api.Errno { _, _, e := solid.Clashes(a, b); return e },
		"CheckOverlap": func(a, b api.Solid) api.Errno { return solid.CheckOverlap(a, b, api.Overlap{A: -1}) },
		"Covers":       func(a, b api.Solid) api.Errno { _, e := solid.Covers(a, b); return e },
		"Same":         func(a, b api.Solid) api.Errno { _, e := solid.Same(a, b); return e },
		"Touches":      func(a, b api.Solid) api.Errno { _, e := solid.Touches(a, b); return e },
	} {
		for _, x := range []struct {
			a, b api.Solid
			want api.Errno
		}{{open, large, api.ErrOpen}, {large, open, api.ErrLarge}, {good, large, api.ErrLarge}, {good, open, api.ErrOpen}} {
			if e := call(x.a, x.b); e != x.want {
				t.Errorf("%s: %d, want %d", name, e, x.want)
			}
		}
	}
	for name, call := range map[string]func(s api.Solid) api.Errno{
		"Check":  solid.Check,
		"Where":  func(s api.Solid) api.Errno { _, e := solid.Where(s, api.Corner{}); return e },
		"Bounds": func(s api.Solid) api.Errno { _, e := solid.Bounds(s); return e },
		"Volume": func(s api.Solid) api.Errno { _, e := solid.Volume(s); return e },
		"Move":   func(s api.Solid) api.Errno { _, e := solid.Move(s, [3]int{math.MaxInt}); return e },
		"Turn":   func(s api.Solid) api.Errno { _, e := solid.Turn(s, 99); return e },
		"Print":  func(s api.Solid) api.Errno { _, e := solid.Print(s); return e },
	} {
		if e := call(open); e != api.ErrOpen {
			t.Errorf("%s: %d, want that of Check", name, e)
		}
	}
	for name, call := range map[string]func(c api.Cell) api.Errno{
		"CheckCell": solid.CheckCell,
		"Normal":    func(c api.Cell) api.Errno { _, e := solid.Normal(c); return e },
		"Corners":   func(c api.Cell) api.Errno { _, e := solid.Corners(c); return e },
	} {
		if e := call(api.Cell{}); e != api.ErrOpen {
			t.Errorf("%s: %d, want that of CheckCell", name, e)
		}
	}
}
