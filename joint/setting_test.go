package joint_test

import (
	"cmp"
	"math"
	"slices"
	"testing"

	"spokeshave/api"
	"spokeshave/joint"
	"spokeshave/solid"
)

// P3.8: solids are turned, then moved.
func TestPut(t *testing.T) {
	// Turn 12 takes (x, y, z) to (y, z, x).
	s, e := joint.Put(box(t, 1, 2, 3, 4, 6, 8), api.Setting{At: [3]int{10, 20, 30}, Turn: 12})
	if b, f := solid.Bounds(s); e != api.OK || f != api.OK || b != (api.Box{X1: 12, Y1: 23, Z1: 31, X2: 16, Y2: 28, Z2: 34}) {
		t.Errorf("%v, %d, %d", b, e, f)
	}
	for turn := range 48 {
		at := api.Setting{At: [3]int{-5, 7, 9}, Turn: turn}
		all, _ := keeps(t, made(dovetail, 12, 60, 20, 6, 20, 20))
		for _, s := range all {
			turned, _ := solid.Turn(s, turn)
			want, _ := solid.Move(turned, at.At)
			if got, e := joint.Put(s, at); e != api.OK || !alike(got, want) {
				t.Errorf("turn %d: %v, %d", turn, got, e)
			}
		}
	}
	far := box(t, 299999, 0, 0, 300000, 1, 1)
	for name, x := range map[string]struct {
		s    api.Solid
		at   api.Setting
		want api.Errno
	}{
		"no cells":                   {api.Solid{}, api.Setting{At: [3]int{600000, -600000, 600000}, Turn: 47}, api.OK},
		"turn -1":                    {far, api.Setting{Turn: -1}, api.ErrRange},
		"turn 48":                    {far, api.Setting{Turn: 48}, api.ErrRange},
		"the last turn there is":     {far, api.Setting{Turn: math.MaxInt}, api.ErrRange},
		"a wrong solid, turn 48":     {open(), api.Setting{Turn: 48}, api.ErrOpen},
		"a wrong solid, far away":    {open(), api.Setting{At: [3]int{math.MaxInt}}, api.ErrOpen},
		"too far":                    {api.Solid{}, api.Setting{At: [3]int{0, 600001}}, api.ErrRange},
		"out of the room":            {far, api.Setting{At: [3]int{1}}, api.ErrRange},
		"turned, then it may be put": {far, api.Setting{At: [3]int{1}, Turn: 2}, api.OK},
	} {
		s, e := joint.Put(x.s, x.at)
		if e != x.want || e != api.OK && len(s.Cells) > 0 {
			t.Errorf("%s: %v, %d, want %d", name, s, e, x.want)
		}
	}
}

// P3.8 and P3.10: what is placed is what a member keeps, put, and lies in the box, put.
func TestPlaced(t *testing.T) {
	random := steadily(8)
	for kind := range countKinds {
		for range 20 {
			j := anyJoint(random, kind)
			at := api.Setting{At: [3]int{number(random, -50, 50), number(random, -50, 50), number(random, -50, 50)}, Turn: number(random, 0, 47)}
			b, e := joint.Boxed(j, at)
			whole, f := solid.OfBox(b)
			if e != api.OK || f != api.OK {
				t.Fatalf("%v at %v: the box %v, %d, %d", j, at, b, e, f)
			}
			all, _ := keeps(t, j)
			for i, s := range all {
				want, _ := joint.Put(s, at)
				got, e := joint.Placed(j, i, at)
				if e != api.OK || !alike(got, want) {
					t.Fatalf("%v, member %d at %v: %v, %d", j, i, at, got, e)
				}
				if covers, e := solid.Covers(whole, got); e != api.OK || !covers {
					t.Fatalf("%v, member %d at %v is not in the box %v: %d", j, i, at, b, e)
				}
			}
		}
	}
}

// P3.8: the errors of Placed.
func TestPlacedErrors(t *testing.T) {
	good := made(lap, 4000, 4000, 2000, 1000)
	for name, x := range map[string]struct {
		j      api.Joint
		member int
		at     api.Setting
		want   api.Errno
	}{
		"a wrong joint":         {made(lap, 4000, 4000, 2000), 9, api.Setting{Turn: 48}, api.ErrShape},
		"a missing member":      {good, 2, api.Setting{Turn: 48}, api.ErrMissing},
		"turn 48":               {good, 1, api.Setting{Turn: 48}, api.ErrRange},
		"too far":               {good, 1, api.Setting{At: [3]int{600001}}, api.ErrRange},
		"out of the room":       {good, 1, api.Setting{At: [3]int{0, 296001}}, api.ErrRange},
		"up to its border":      {good, 1, api.Setting{At: [3]int{0, 296000}}, api.OK},
		"only B is in the room": {good, 1, api.Setting{At: [3]int{0, 0, 299000}}, api.OK},
		"A is not":              {good, 0, api.Setting{At: [3]int{0, 0, 299000}}, api.ErrRange},
	} {
		s, e := joint.Placed(x.j, x.member, x.at)
		if e != x.want || (e != api.OK) != (len(s.Cells) == 0) {
			t.Errorf("%s: %v, %d, want %d", name, s, e, x.want)
		}
	}
}

// P3.8: the box, put, with all turns.
func TestBoxed(t *testing.T) {
	j := made(lap, 30, 20, 10, 5)
	for turn := range 48 {
		at := api.Setting{At: [3]int{100, -200, 300}, Turn: turn}
		put, _ := joint.Put(box(t, 0, 0, 0, 30, 20, 10), at)
		want, _ := solid.Bounds(put)
		if b, e := joint.Boxed(j, at); e != api.OK || b != want {
			t.Errorf("turn %d: %v, %d, want %v", turn, b, e, want)
		}
	}
	// Turn 3 takes (x, y, z) to (-x, -y, z).
	for name, x := range map[string]struct {
		j    api.Joint
		at   api.Setting
		want api.Errno
	}{
		"in the far corner":        {j, api.Setting{At: [3]int{299970, 299980, 299990}}, api.OK},
		"X beyond it":              {j, api.Setting{At: [3]int{299971, 299980, 299990}}, api.ErrRange},
		"Y beyond it":              {j, api.Setting{At: [3]int{299970, 299981, 299990}}, api.ErrRange},
		"Z beyond it":              {j, api.Setting{At: [3]int{299970, 299980, 299991}}, api.ErrRange},
		"in the near corner":       {j, api.Setting{At: [3]int{-300000, -300000, -300000}}, api.OK},
		"X ahead of it":            {j, api.Setting{At: [3]int{-300001}}, api.ErrRange},
		"turned into the room":     {j, api.Setting{At: [3]int{300000, 300000}, Turn: 3}, api.OK},
		"turned out of the room":   {j, api.Setting{At: [3]int{-299971}, Turn: 3}, api.ErrRange},
		"turned up to its border":  {j, api.Setting{At: [3]int{-299970, -299980}, Turn: 3}, api.OK},
		"turn -1":                  {j, api.Setting{Turn: -1}, api.ErrRange},
		"turn 48":                  {j, api.Setting{Turn: 48}, api.ErrRange},
		"the first turn there is":  {j, api.Setting{Turn: math.MinInt}, api.ErrRange},
		"the last number there is": {j, api.Setting{At: [3]int{math.MaxInt}}, api.ErrRange},
		"the least number":         {j, api.Setting{At: [3]int{0, 0, math.MinInt}, Turn: 3}, api.ErrRange},
		"a wrong joint":            {made(lap, 30, 20, 10, 10), api.Setting{Turn: 48}, api.ErrForm},
	} {
		b, e := joint.Boxed(x.j, x.at)
		if e != x.want || e != api.OK && b != (api.Box{}) {
			t.Errorf("%s: %v, %d, want %d", name, b, e, x.want)
		}
	}
}

// P3.8: turned ways.
func TestTurned(t *testing.T) {
	for turn := range 48 {
		for _, w := range allWays() {
			v, _ := solid.Turned([3]int{w.X, w.Y, w.Z}, turn)
			if got, e := joint.Turned(w, turn); e != api.OK || got != (api.Way{X: v[0], Y: v[1], Z: v[2]}) {
				t.Errorf("%v, turn %d: %v, %d", w, turn, got, e)
			}
		}
	}
	for _, x := range []struct {
		w    api.Way
		turn int
		want api.Errno
	}{
		{api.Way{X: 2}, 0, api.ErrRange}, {api.Way{Y: -2}, 0, api.ErrRange}, {api.Way{Z: math.MinInt}, 0, api.ErrRange}, {api.Way{X: 1, Z: 2}, 0, api.ErrRange},
		{api.Way{X: 1}, -1, api.ErrRange}, {api.Way{X: 1}, 48, api.ErrRange}, {api.Way{}, 48, api.ErrRange},
		{api.Way{}, 0, api.ErrZero}, {api.Way{}, 47, api.ErrZero},
	} {
		if w, e := joint.Turned(x.w, x.turn); e != x.want || w != (api.Way{}) {
			t.Errorf("%v, turn %d: %v, %d, want %d", x.w, x.turn, w, e, x.want)
		}
	}
}

// P3.8: the ways in which a member is free where a joint is put are those in which it is not blocked there.
func TestFreeAt(t *testing.T) {
	random := steadily(9)
	for _, j := range plain() {
		all, _ := keeps(t, j)
		for member := range all {
			at := api.Setting{At: [3]int{5, 6, 7}, Turn: number(random, 0, 47)}
			var placed []api.Solid
			for i := range all {
				s, e := joint.Placed(j, i, at)
				if e != api.OK {
					t.Fatalf("%v: %d", j, e)
				}
				placed = append(placed, s)
			}
			if l, e := joint.FreeAt(j, member, at); e != api.OK || !alike(l, unblocked(t, placed, member)) {
				t.Errorf("%v, member %d at %v: %v, %d", j, member, at, l, e)
			}
		}
		checkTurnedWays(t, j)
	}
}

// checkTurnedWays tests with all turns that FreeAt returns the turned ways of Free, in their order.
func checkTurnedWays(t *testing.T, j api.Joint) {
	t.Helper()
	free, _ := joint.Free(j, 1)
	for turn := range 48 {
		var want []api.Way
		for _, w := range free {
			turned, _ := joint.Turned(w, turn)
			want = append(want, turned)
		}
		slices.SortFunc(want, func(v, w api.Way) int {
			return cmp.Or(cmp.Compare(v.X, w.X), cmp.Compare(v.Y, w.Y), cmp.Compare(v.Z, w.Z))
		})
		if l, e := joint.FreeAt(j, 1, api.Setting{Turn: turn}); e != api.OK || !alike(l, want) {
			t.Errorf("%v, turn %d: %v, %d, want %v", j, turn, l, e, want)
		}
	}
}

// P3.8: the errors of FreeAt, which does not look at At.
func TestFreeAtErrors(t *testing.T) {
	good := made(lap, 4000, 4000, 2000, 1000)
	away := [3]int{math.MaxInt, math.MinInt, 600001}
	for name, x := range map[string]struct {
		j      api.Joint
		member int
		at     api.Setting
		want   api.Errno
	}{
		"far away":         {good, 0, api.Setting{At: away, Turn: 47}, api.OK},
		"a wrong joint":    {made(lap, 0, 0, 0), 9, api.Setting{Turn: 48}, api.ErrRange},
		"without numbers":  {made(lap, 1, 1, 1), 9, api.Setting{Turn: 48}, api.ErrShape},
		"a missing member": {good, 2, api.Setting{Turn: 48}, api.ErrMissing},
		"turn 48":          {good, 1, api.Setting{Turn: 48}, api.ErrRange},
		"turn -1":          {good, 1, api.Setting{Turn: -1}, api.ErrRange},
	} {
		l, e := joint.FreeAt(x.j, x.member, x.at)
		if e != x.want || (e != api.OK) != (len(l) == 0) {
			t.Errorf("%s: %v, %d, want %d", name, l, e, x.want)
		}
	}
	// A loose member is free in no way, and Turn is looked at all the same.
	for _, turn := range []int{-1, 48, math.MinInt, math.MaxInt} {
		if l, e := joint.FreeAt(plain()[spline], 2, api.Setting{Turn: turn}); e != api.ErrRange || len(l) > 0 {
			t.Errorf("a loose member, turn %d: %v, %d", turn, l, e)
		}
	}
	if l, e := joint.FreeAt(plain()[spline], 2, api.Setting{Turn: 47}); e != api.OK || len(l) > 0 {
		t.Errorf("a loose member: %v, %d", l, e)
	}
}
