package joint_test

import (
	"slices"
	"testing"

	"spokeshave/api"
	"spokeshave/joint"
	"spokeshave/solid"
)

// P3.10: the members of a right joint, with its gaps, fill its box and overlap nowhere.
func TestMembersFill(t *testing.T) {
	random := steadily(10)
	for kind := range countKinds {
		joints := []api.Joint{plain()[kind]}
		for range 30 {
			joints = append(joints, anyJoint(random, kind))
		}
		for _, j := range joints {
			all, gaps := keeps(t, j)
			if about, e := joint.Verify(j.Size, all, gaps); e != api.OK || about != [2]int{} {
				t.Fatalf("%v: %v, %d", j, about, e)
			}
			checkMissing(t, j, all, gaps)
		}
	}
}

// checkMissing tests that Verify refuses the members of a joint if one of them, or the gaps, are left out, or one is there twice.
func checkMissing(t *testing.T, j api.Joint, all []api.Solid, gaps api.Solid) {
	t.Helper()
	for i := range all {
		if about, e := joint.Verify(j.Size, slices.Delete(slices.Clone(all), i, i+1), gaps); e != api.ErrGap || about != [2]int{} {
			t.Fatalf("%v without %d: %v, %d", j, i, about, e)
		}
	}
	if _, e := joint.Verify(j.Size, all, api.Solid{}); (e != api.OK) != (len(gaps.Cells) > 0) {
		t.Fatalf("%v without gaps: %d", j, e)
	}
	if about, e := joint.Verify(j.Size, append(slices.Clone(all), all[0]), gaps); e != api.ErrClash || about != [2]int{0, len(all)} {
		t.Fatalf("%v with A twice: %v, %d", j, about, e)
	}
}

// P3.10: joints with many cells; those with more than 100 are too large for Verify.
func TestMembersFillLarge(t *testing.T) {
	for n, want := range []api.Errno{1: api.OK, 2: api.OK, 3: api.OK, 4: api.OK, 5: api.OK, 6: api.ErrLarge} {
		if n == 0 {
			continue
		}
		j := made(dowels, 1000, 1000, 100, 500, 20, 30, 100, 100, 10)
		for i := range n {
			j.Numbers = append(j.Numbers, 50+100*i, 40+i)
		}
		all, gaps := keeps(t, j)
		if about, e := joint.Verify(j.Size, all, gaps); e != want || about != [2]int{} {
			t.Errorf("%d dowels: %v, %d", n, about, e)
		}
	}
	for _, j := range []api.Joint{
		made(fingers, 1, 25, 1, 1, 2, 3, 4, 5, 6, 7, 8, 9, 10, 11, 12, 13, 14, 15, 16, 17, 18, 19, 20, 21, 22, 23, 24),
		made(dovetail, 8, 88, 9, 8, 1, 2, 6, 10, 14, 18, 22, 26, 30, 34, 38, 42, 46, 50, 54, 58, 62, 66, 70, 74, 78, 82, 86),
		made(lap, 100000, 100000, 100000, 33333),
		made(scarf, 100000, 100000, 80000, 100000, 8, -8),
		made(spline, 100000, 100000, 100000, 100000, 40000, 50000, 30000, 70000),
	} {
		all, gaps := keeps(t, j)
		if about, e := joint.Verify(j.Size, all, gaps); e != api.OK || about != [2]int{} {
			t.Errorf("%v: %v, %d", j, about, e)
		}
	}
}

// P3.10: joints that are put fill their boxes, as they did before.
func TestPlacedFill(t *testing.T) {
	random := steadily(11)
	for kind := range countKinds {
		j := anyJoint(random, kind)
		at := api.Setting{At: [3]int{-40, 50, -60}, Turn: number(random, 0, 47)}
		b, _ := joint.Boxed(j, at)
		whole, _ := solid.OfBox(b)
		together, e := joint.Put(func() api.Solid { s, _ := joint.Gaps(j); return s }(), at)
		if e != api.OK {
			t.Fatalf("%v: %d", j, e)
		}
		all, _ := keeps(t, j)
		for i := range all {
			s, e := joint.Placed(j, i, at)
			if e != api.OK {
				t.Fatalf("%v: %d", j, e)
			}
			if _, clash, e := solid.Clashes(together, s); clash || e != api.OK {
				t.Errorf("%v: %d overlaps others, %d", j, i, e)
			}
			together = union(together, s)
		}
		if same, e := solid.Same(together, whole); !same || e != api.OK {
			t.Errorf("%v at %v: not the box, %d", j, at, e)
		}
	}
}

// P3.10: Parse undoes Print.
func TestParseUndoesPrint(t *testing.T) {
	random := steadily(12)
	for kind := range countKinds {
		for range 50 {
			j := anyJoint(random, kind)
			s, e := joint.Print(j)
			to, f := joint.Parse(s)
			if e != api.OK || f != api.OK || !alike(to, j) {
				t.Fatalf("%v: %q, %d; %v, %d", j, s, e, to, f)
			}
		}
	}
}

// Every function with a joint first returns the error of Check.
func TestErrorsOfJoints(t *testing.T) {
	large := made(lap, 4, 4, 4, make([]int, 25)...)
	for name, call := range map[string]func(j api.Joint) api.Errno{
		"Loose":       func(j api.Joint) api.Errno { _, e := joint.Loose(j); return e },
		"Keeps":       func(j api.Joint) api.Errno { _, e := joint.Keeps(j, -1); return e },
		"Gaps":        func(j api.Joint) api.Errno { _, e := joint.Gaps(j); return e },
		"Free":        func(j api.Joint) api.Errno { _, e := joint.Free(j, -1); return e },
		"Area":        func(j api.Joint) api.Errno { _, e := joint.Area(j); return e },
		"Proportions": func(j api.Joint) api.Errno { _, e := joint.Proportions(j); return e },
		"Loosen":      func(j api.Joint) api.Errno { _, e := joint.Loosen(j, -1); return e },
		"Placed":      func(j api.Joint) api.Errno { _, e := joint.Placed(j, -1, api.Setting{Turn: -1}); return e },
		"Boxed":       func(j api.Joint) api.Errno { _, e := joint.Boxed(j, api.Setting{Turn: -1}); return e },
		"FreeAt":      func(j api.Joint) api.Errno { _, e := joint.FreeAt(j, -1, api.Setting{Turn: -1}); return e },
		"Print":       func(j api.Joint) api.Errno { _, e := joint.Print(j); return e },
	} {
		for want, j := range map[api.Errno]api.Joint{
			api.ErrRange: made(-1, 4, 4, 4), api.ErrLarge: large, api.ErrShape: made(lap, 4, 4, 4), api.ErrForm: made(lap, 4, 4, 4, 4),
		} {
			if e := call(j); e != want {
				t.Errorf("%s: %d, want %d", name, e, want)
			}
		}
	}
}
