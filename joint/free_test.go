package joint_test

import (
	"math"
	"slices"
	"testing"

	"spokeshave/api"
	"spokeshave/joint"
)

// chosen returns the ways, ascending, for which something holds.
func chosen(holds func(x, y, z int) bool) []api.Way {
	var l []api.Way
	for _, w := range allWays() {
		if holds(w.X, w.Y, w.Z) {
			l = append(l, w)
		}
	}
	return l
}

// freeA is what the chapter says of the member A, word by word.
func freeA(j api.Joint) []api.Way {
	n := j.Numbers
	only := func(x, y, z int) []api.Way { return []api.Way{{X: x, Y: y, Z: z}} }
	switch j.Kind {
	case lap:
		return chosen(func(x, y, z int) bool { return z >= 0 })
	case bridle:
		return chosen(func(x, y, z int) bool { return z == 0 })
	case tenon:
		return []api.Way{{X: -1}, {X: 1}}
	case tongue:
		return chosen(func(x, y, z int) bool {
			return z == 0 && x == 1 || z == 0 && x == 0 || n[1] >= j.Size[1] && z == 0 && x == -1 && y != 0
		})
	case dovetail:
		return chosen(func(x, y, z int) bool {
			return y == 0 && x == -1 || x == 0 && y == 0 || n[0] == 1 && x == -1
		})
	case scarf:
		return chosen(func(x, y, z int) bool { return n[1]*x-n[2]*z >= 0 })
	case fingers:
		return chosen(func(x, y, z int) bool { return y == 0 || len(n) == 1 && y == -1 })
	case spline:
		return only(1, -1, 0)
	case three:
		return only(0, 0, 1)
	}
	return only(1, 0, 0)
}

// opposites returns the opposite ways, ascending.
func opposites(l []api.Way) []api.Way {
	var to []api.Way
	for _, w := range slices.Backward(l) {
		to = append(to, api.Way{X: -w.X, Y: -w.Y, Z: -w.Z})
	}
	return to
}

// P3.4 and P3.10: a member is free in the ways that the chapter lists, and these are just those in which it is not blocked.
func TestFree(t *testing.T) {
	random := steadily(4)
	for kind := range countKinds {
		for range 25 {
			j := anyJoint(random, kind)
			all, _ := keeps(t, j)
			for member := range all {
				want := freeA(j)
				switch {
				case member == 1:
					want = opposites(want)
				case member == 2 && kind == three:
					want = []api.Way{{Z: -1}, {Z: 1}}
				case member > 1:
					want = nil
				}
				free, e := joint.Free(j, member)
				if e != api.OK || !alike(free, want) {
					t.Fatalf("%v, member %d: %v, %d, want %v", j, member, free, e, want)
				}
				if ways := unblocked(t, all, member); !alike(free, ways) {
					t.Fatalf("%v, member %d: free in %v, but not blocked in %v", j, member, free, ways)
				}
			}
		}
	}
}

// P3.4: the second and the third example of the chapter, and the cases that depend on numbers.
func TestFreeExamples(t *testing.T) {
	for name, x := range map[string]struct {
		j    api.Joint
		want []api.Way
	}{
		"dovetail": {made(dovetail, 1200, 6000, 2000, 6, 2000, 2000), []api.Way{{X: -1, Z: -1}, {X: -1}, {X: -1, Z: 1}, {Z: -1}, {Z: 1}}},
		"scarf":    {made(scarf, 12000, 3000, 2000, 0, 1, 6), chosen(func(x, y, z int) bool { return z == -1 || z == 0 && x >= 0 })},
		"a gap as deep as the width": {made(tongue, 60, 5, 30, 20, 5, 10, 20), []api.Way{
			{X: -1, Y: -1}, {X: -1, Y: 1}, {Y: -1}, {Y: 1}, {X: 1, Y: -1}, {X: 1}, {X: 1, Y: 1},
		}},
		"a gap less deep":       {made(tongue, 60, 6, 30, 20, 5, 10, 20), []api.Way{{Y: -1}, {Y: 1}, {X: 1, Y: -1}, {X: 1}, {X: 1, Y: 1}}},
		"a dovetail of 45":      {made(dovetail, 3, 20, 9, 1, 2, 5), chosen(func(x, y, z int) bool { return x == -1 || x == 0 && y == 0 })},
		"one finger":            {made(fingers, 3, 20, 9, 5), chosen(func(x, y, z int) bool { return y <= 0 })},
		"two fingers":           {made(fingers, 3, 20, 9, 5, 6), chosen(func(x, y, z int) bool { return y == 0 })},
		"a scarf of 45":         {made(scarf, 9, 3, 5, 1, 1, 1), chosen(func(x, y, z int) bool { return x >= z })},
		"a scarf the other way": {made(scarf, 9, 3, 5, 8, 1, -1), chosen(func(x, y, z int) bool { return x >= -z })},
	} {
		if free, e := joint.Free(x.j, 0); e != api.OK || !alike(free, x.want) {
			t.Errorf("%s: %v, %d, want %v", name, free, e, x.want)
		}
	}
}

// P3.4: members that are not there.
func TestFreeErrors(t *testing.T) {
	for _, j := range plain() {
		all, _ := keeps(t, j)
		for _, member := range []int{-1, len(all), math.MinInt, math.MaxInt} {
			if l, e := joint.Free(j, member); e != api.ErrMissing || len(l) > 0 {
				t.Errorf("%v, member %d: %v, %d", j, member, l, e)
			}
		}
	}
	if l, e := joint.Free(made(lap, 1, 1, 2, 1, 1), -1); e != api.ErrShape || len(l) > 0 {
		t.Errorf("a wrong joint: %v, %d", l, e)
	}
}
