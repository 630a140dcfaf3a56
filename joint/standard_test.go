package joint_test

import (
	"math"
	"testing"

	"spokeshave/api"
	"spokeshave/joint"
)

// P3.7: the standards of all kinds, with quotients that are rounded down.
func TestStandard(t *testing.T) {
	for _, want := range []api.Joint{
		made(lap, 1, 1, 9, 4), made(lap, 1, 1, 2, 1),
		made(bridle, 1, 1, 11, 3, 8), made(bridle, 1, 1, 3, 1, 2),
		made(tenon, 1, 17, 11, 2, 15, 3, 8), made(tenon, 1, 6, 3, 1, 5, 1, 2),
		made(stopped, 4800, 2400, 1200, 3200, 200, 400, 2000, 400, 800), made(stopped, 50, 17, 11, 33, 2, 2, 15, 3, 8), made(stopped, 23, 6, 3, 15, 0, 1, 5, 1, 2),
		made(tongue, 4799, 1, 11, 2399, 199, 3, 8), made(tongue, 49, 1, 11, 24, 2, 3, 8), made(tongue, 2, 1, 3, 1, 0, 1, 2),
		// k 200, step 1000 + 2 * 200 + 500 = 1900: 5500 / 1900 = 2 tails; (6000 - 1900 - 1000) / 2.
		made(dovetail, 1600, 6000, 1000, 8, 1000, 1550, 3450),
		// 7 divides 21: step 11 + 6 + 5 = 22: (49 - 5) / 22 = 2; (49 - 22 - 11) / 2 = 8.
		made(dovetail, 21, 49, 11, 7, 11, 8, 30),
		made(dovetail, 21, 48, 11, 7, 11, 18),
		// 13 has only the divisor 1: step 3 + 26 + 1 = 30: (32 - 1) / 30 = 1; (32 - 3) / 2.
		made(dovetail, 13, 32, 3, 1, 3, 14),
		// At most 8: step 2 + 2 + 1 = 5: (1000 - 1) / 5 is more; (1000 - 35 - 2) / 2 = 481.
		made(dovetail, 8, 1000, 2, 8, 2, 481, 486, 491, 496, 501, 506, 511, 516),
		made(dovetail, 8, 46, 2, 8, 2, 4, 9, 14, 19, 24, 29, 34, 39),
		made(scarf, 12, 1, 2, 0, 1, 6), made(scarf, 15, 1, 2, 1, 1, 6), made(scarf, 100, 1, 7, 29, 1, 6),
		made(fingers, 1, 10, 3, 3, 6, 9), made(fingers, 1, 9, 3, 3, 6), made(fingers, 1, 4, 3, 3),
		made(fingers, 1, 90, 1, 1, 2, 3, 4, 5, 6, 7, 8, 9, 10, 11, 12, 13, 14, 15, 16, 17, 18, 19, 20, 21, 22, 23, 24),
		made(dowels, 4800, 2400, 1200, 2400, 200, 280, 1600, 1600, 200, 600, 600, 1800, 600),
		made(dowels, 50, 31, 23, 25, 3, 4, 16, 16, 2, 7, 11, 24, 11),
		made(spline, 41, 41, 11, 41, 5, 10, 2, 9), made(spline, 8, 8, 4, 8, 1, 2, 1, 3),
		made(three, 11, 17, 9, 4, 3, 8, 5, 12), made(three, 3, 3, 2, 1, 1, 2, 1, 2),
	} {
		if j, e := joint.Standard(want.Kind, want.Size); e != api.OK || !alike(j, want) {
			t.Errorf("%v, %d, want %v", j, e, want)
		}
		if e := joint.Check(want); e != api.OK {
			t.Errorf("%v is wrong: %d", want, e)
		}
	}
}

// P3.7: boxes that are too small, and wrong ones.
func TestStandardErrors(t *testing.T) {
	for name, x := range map[string]struct {
		kind int
		size [3]int
		want api.Errno
	}{
		"a low lap":                  {lap, [3]int{9, 9, 1}, api.ErrNone},
		"a low bridle":               {bridle, [3]int{9, 9, 2}, api.ErrNone},
		"a narrow tenon":             {tenon, [3]int{9, 5, 9}, api.ErrNone},
		"a short tenon with a depth": {stopped, [3]int{1, 9, 9}, api.ErrNone},
		"a short tongue":             {tongue, [3]int{1, 9, 9}, api.ErrNone},
		"no room for a tail":         {dovetail, [3]int{1200, 3399, 2000}, api.ErrNone},
		"not even half of it":        {dovetail, [3]int{8, 1, 100000}, api.ErrNone},
		"a short scarf":              {scarf, [3]int{11, 9, 2}, api.ErrNone},
		"a very short scarf":         {scarf, [3]int{1, 9, 100000}, api.ErrNone},
		"narrow fingers":             {fingers, [3]int{9, 9, 9}, api.ErrNone},
		"thin dowels":                {dowels, [3]int{48, 48, 17}, api.ErrNone},
		"narrow dowels":              {dowels, [3]int{48, 15, 18}, api.ErrNone},
		"dowels that are short":      {dowels, [3]int{2, 48, 18}, api.ErrNone},
		"a spline that is not square": {
			spline, [3]int{48, 47, 18}, api.ErrNone,
		},
		"a short spline":  {spline, [3]int{7, 7, 18}, api.ErrNone},
		"a narrow three":  {three, [3]int{9, 2, 9}, api.ErrNone},
		"kind -1":         {-1, [3]int{9, 9, 9}, api.ErrRange},
		"kind 11":         {11, [3]int{9, 9, 9}, api.ErrRange},
		"the last kind":   {math.MaxInt, [3]int{9, 9, 9}, api.ErrRange},
		"no length":       {lap, [3]int{0, 9, 9}, api.ErrRange},
		"no width":        {dovetail, [3]int{9, 0, 9}, api.ErrRange},
		"a height below":  {fingers, [3]int{9, 9, math.MinInt}, api.ErrRange},
		"too long":        {lap, [3]int{100001, 9, 9}, api.ErrRange},
		"too wide":        {lap, [3]int{9, math.MaxInt, 9}, api.ErrRange},
		"too high":        {scarf, [3]int{9, 9, 100001}, api.ErrRange},
		"the largest one": {lap, [3]int{100000, 100000, 100000}, api.OK},
	} {
		j, e := joint.Standard(x.kind, x.size)
		if e != x.want || e != api.OK && !alike(j, api.Joint{}) {
			t.Errorf("%s: %v, %d, want %d", name, j, e, x.want)
		}
	}
}

// More exactly: most standards have good proportions.
func TestStandardProportions(t *testing.T) {
	for kind, size := range [][3]int{
		{4800, 2400, 1200}, {4800, 2400, 1200}, {4800, 2400, 1200}, {4800, 2400, 1200}, {4800, 2400, 1200}, {1200, 6000, 2000},
		{14400, 2400, 1200}, {4800, 2400, 1200}, {4800, 2400, 1200}, {4800, 4800, 1200}, {4800, 2400, 1200},
	} {
		j, e := joint.Standard(kind, size)
		if e != api.OK {
			t.Errorf("kind %d: %d", kind, e)
		}
		if l, e := joint.Proportions(j); e != api.OK || len(l) > 0 {
			t.Errorf("%v: %v, %d", j, l, e)
		}
	}
}

// P3.7: joints with another gap.
func TestLoosen(t *testing.T) {
	for _, x := range []struct{ from, to api.Joint }{
		{made(stopped, 60, 40, 30, 40, 5, 10, 30, 10, 20), made(stopped, 60, 40, 30, 40, 19, 10, 30, 10, 20)},
		{made(stopped, 60, 40, 30, 40, 5, 10, 30, 10, 20), made(stopped, 60, 40, 30, 40, 0, 10, 30, 10, 20)},
		{made(stopped, 60, 40, 30, 40, 5, 10, 30, 10, 20), made(stopped, 60, 40, 30, 40, 5, 10, 30, 10, 20)},
		{made(tongue, 60, 40, 30, 20, 0, 10, 20), made(tongue, 60, 40, 30, 20, 39, 10, 20)},
		{made(dowels, 60, 40, 30, 30, 4, 6, 10, 12, 2, 10, 15), made(dowels, 60, 40, 30, 30, 4, 6, 10, 12, 17, 10, 15)},
	} {
		gap := x.to.Numbers[1]
		if x.to.Kind == dowels {
			gap = x.to.Numbers[5]
		}
		if j, e := joint.Loosen(x.from, gap); e != api.OK || !alike(j, x.to) {
			t.Errorf("%v with the gap %d: %v, %d", x.from, gap, j, e)
		}
	}
	for _, j := range plain() {
		has := j.Kind == stopped || j.Kind == tongue || j.Kind == dowels
		for gap, want := range map[int]api.Errno{
			0: api.OK, -1: api.ErrForm, 60: api.ErrForm, 100000: api.ErrForm, 100001: api.ErrRange, -100001: api.ErrRange, math.MaxInt: api.ErrRange, math.MinInt: api.ErrRange,
		} {
			if !has {
				want = api.ErrKind
			}
			to, e := joint.Loosen(j, gap)
			if e != want || e != api.OK && !alike(to, api.Joint{}) {
				t.Errorf("%v with the gap %d: %v, %d, want %d", j, gap, to, e, want)
			}
		}
	}
	for name, x := range map[string]struct {
		j    api.Joint
		want api.Errno
	}{
		"of the one end":   {made(stopped, 60, 40, 30, 40, 5, 10, 30, 10, 20), api.ErrForm},
		"of a wrong joint": {made(stopped, 60, 40, 30, 40, 99, 10, 30, 10, 20), api.ErrForm},
		"without numbers":  {made(stopped, 60, 40, 30), api.ErrShape},
		"of a wrong kind":  {made(lap, 60, 40, 30, 30), api.ErrForm},
	} {
		if j, e := joint.Loosen(x.j, 20); e != x.want || !alike(j, api.Joint{}) {
			t.Errorf("%s: %v, %d, want %d", name, j, e, x.want)
		}
	}
}
