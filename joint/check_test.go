package joint_test

import (
	"math"
	"slices"
	"testing"

	"spokeshave/api"
	"spokeshave/joint"
)

// P3.1: the errors of Check, and which one comes first.
func TestCheck(t *testing.T) {
	many := func(n int) []int {
		l := make([]int, n)
		for i := range l {
			l[i] = i + 1
		}
		return l
	}
	for name, x := range map[string]struct {
		j    api.Joint
		want api.Errno
	}{
		"the least kind":                {made(0, 1, 1, 2, 1), api.OK},
		"kind -1":                       {made(-1, 1, 1, 2, 1), api.ErrRange},
		"kind 11":                       {made(11, 1, 1, 2, 1), api.ErrRange},
		"the greatest kind there is":    {made(math.MaxInt, 1, 1, 2, 1), api.ErrRange},
		"the least kind there is":       {made(math.MinInt, 1, 1, 2, 1), api.ErrRange},
		"no length":                     {made(lap, 0, 1, 2, 1), api.ErrRange},
		"no width":                      {made(lap, 1, 0, 2, 1), api.ErrRange},
		"no height":                     {made(lap, 1, 1, 0, 1), api.ErrRange},
		"the greatest box":              {made(lap, 100000, 100000, 100000, 99999), api.OK},
		"too long":                      {made(lap, 100001, 1, 2, 1), api.ErrRange},
		"too wide":                      {made(lap, 1, 100001, 2, 1), api.ErrRange},
		"too high":                      {made(lap, 1, 1, 100001, 1), api.ErrRange},
		"24 numbers":                    {made(fingers, 1, 25, 1, many(24)...), api.OK},
		"25 numbers":                    {made(fingers, 1, 100, 1, many(25)...), api.ErrLarge},
		"25 numbers, a wrong count":     {made(lap, 1, 1, 2, many(25)...), api.ErrLarge},
		"25 numbers of a wrong size":    {made(fingers, 0, 100, 1, many(25)...), api.ErrRange},
		"a wrong count, out of range":   {made(lap, 1, 1, 2, 1, math.MaxInt), api.ErrShape},
		"a number of MaxJoint":          {made(lap, 1, 1, 2, 100000), api.ErrForm},
		"a number above MaxJoint":       {made(lap, 1, 1, 2, 100001), api.ErrRange},
		"a number of -MaxJoint":         {made(lap, 1, 1, 2, -100000), api.ErrForm},
		"a number below -MaxJoint":      {made(lap, 1, 1, 2, -100001), api.ErrRange},
		"a condition, then the range":   {made(bridle, 1, 1, 9, 9, 100001), api.ErrRange},
		"the greatest number there is":  {made(dovetail, 6, 9, 9, 6, 1, math.MaxInt), api.ErrRange},
		"the least number there is":     {made(scarf, 6, 9, 9, 0, 1, math.MinInt), api.ErrRange},
		"a dovetail of the largest box": {made(dovetail, 100000, 100000, 9, 8, 1, 20000), api.OK},
	} {
		if e := joint.Check(x.j); e != x.want {
			t.Errorf("%s: %d, want %d", name, e, x.want)
		}
	}
}

// counts has the counts of numbers that each kind may have.
var counts = [][]int{
	{1}, {2}, {4}, {6}, {4},
	{3, 4, 5, 6, 7, 8, 9, 10, 11, 12, 13, 14, 15, 16, 17, 18, 19, 20, 21, 22, 23, 24},
	{3},
	{1, 2, 3, 4, 5, 6, 7, 8, 9, 10, 11, 12, 13, 14, 15, 16, 17, 18, 19, 20, 21, 22, 23, 24},
	{8, 10, 12, 14, 16, 18, 20, 22, 24},
	{5}, {5},
}

// P3.1: how many numbers a joint may have.
func TestCheckCounts(t *testing.T) {
	for kind, allowed := range counts {
		for n := range 25 {
			e := joint.Check(made(kind, 100, 100, 100, make([]int, n)...))
			if want := slices.Contains(allowed, n); (e != api.ErrShape) != want {
				t.Errorf("kind %d with %d numbers: %d", kind, n, e)
			}
		}
	}
}

// P3.1: each condition at its bounds.
func TestCheckBounds(t *testing.T) {
	right := []api.Joint{
		made(lap, 1, 1, 9, 1), made(lap, 1, 1, 9, 8),
		made(bridle, 1, 1, 9, 1, 2), made(bridle, 1, 1, 9, 7, 8),
		made(tenon, 1, 4, 4, 1, 2, 2, 3), made(tenon, 1, 4, 4, 2, 3, 1, 2),
		made(stopped, 9, 4, 4, 1, 0, 1, 2, 1, 2), made(stopped, 9, 4, 4, 1, 7, 1, 2, 1, 2), made(stopped, 9, 4, 4, 8, 0, 2, 3, 2, 3),
		made(tongue, 9, 1, 4, 1, 0, 1, 2), made(tongue, 9, 1, 4, 1, 7, 2, 3), made(tongue, 9, 1, 4, 8, 0, 1, 3),
		made(dovetail, 8, 4, 1, 8, 1, 2), made(dovetail, 3, 7, 1, 1, 1, 3), made(dovetail, 2, 20, 1, 1, 5, 2, 11),
		made(scarf, 9, 1, 3, 0, 1, 3), made(scarf, 9, 1, 3, 9, 1, -3), made(scarf, 8, 1, 8, 0, 8, 8), made(scarf, 8, 1, 8, 8, 8, -8), made(scarf, 6, 1, 4, 0, 6, 3),
		made(fingers, 1, 4, 1, 1, 2, 3), made(fingers, 1, 4, 1, 3),
		made(dowels, 4, 6, 6, 2, 2, 3, 1, 1, 0, 3, 3), made(dowels, 8, 14, 8, 4, 2, 3, 2, 2, 1, 3, 3, 8, 5),
		made(spline, 2, 2, 3, 2, 1, 1, 1, 2), made(spline, 3, 3, 4, 4, 1, 1, 1, 3),
		made(three, 3, 3, 2, 1, 1, 2, 1, 2),
	}
	for _, j := range right {
		if e := joint.Check(j); e != api.OK {
			t.Errorf("%v: %d", j, e)
		}
	}
	wrong := []api.Joint{
		made(lap, 1, 1, 9, 0), made(lap, 1, 1, 9, 9),
		made(bridle, 1, 1, 9, 0, 2), made(bridle, 1, 1, 9, 2, 2), made(bridle, 1, 1, 9, 7, 9),
		made(tenon, 1, 4, 4, 0, 2, 1, 2), made(tenon, 1, 4, 4, 2, 2, 1, 2), made(tenon, 1, 4, 4, 1, 4, 1, 2),
		made(tenon, 1, 4, 4, 1, 2, 0, 2), made(tenon, 1, 4, 4, 1, 2, 2, 2), made(tenon, 1, 4, 4, 1, 2, 1, 4),
		made(stopped, 9, 4, 4, 0, 0, 1, 2, 1, 2), made(stopped, 9, 4, 4, 1, -1, 1, 2, 1, 2), made(stopped, 9, 4, 4, 1, 8, 1, 2, 1, 2),
		made(stopped, 9, 4, 4, 9, 0, 1, 2, 1, 2), made(stopped, 9, 4, 4, 1, 0, 0, 2, 1, 2), made(stopped, 9, 4, 4, 1, 0, 2, 2, 1, 2),
		made(stopped, 9, 4, 4, 1, 0, 1, 4, 1, 2), made(stopped, 9, 4, 4, 1, 0, 1, 2, 0, 2), made(stopped, 9, 4, 4, 1, 0, 1, 2, 2, 2),
		made(stopped, 9, 4, 4, 1, 0, 1, 2, 1, 4),
		made(tongue, 9, 1, 4, 0, 0, 1, 2), made(tongue, 9, 1, 4, 1, -1, 1, 2), made(tongue, 9, 1, 4, 1, 8, 1, 2),
		made(tongue, 9, 1, 4, 1, 0, 0, 2), made(tongue, 9, 1, 4, 1, 0, 2, 2), made(tongue, 9, 1, 4, 1, 0, 1, 4),
		made(dovetail, 8, 9, 1, 0, 1, 2), made(dovetail, 9, 9, 1, 9, 1, 2), made(dovetail, 8, 9, 1, -1, 1, 2), made(dovetail, 7, 9, 1, 8, 1, 2),
		made(dovetail, 8, 9, 1, 8, 0, 2), made(dovetail, 8, 9, 1, 8, 1, 0), made(dovetail, 8, 3, 1, 8, 1, 2), made(dovetail, 3, 7, 1, 1, 1, 2),
		made(dovetail, 2, 20, 1, 1, 5, 2, 10), made(dovetail, 2, 17, 1, 1, 5, 2, 11),
		made(scarf, 9, 1, 3, -1, 1, 3), made(scarf, 9, 1, 3, 1, 1, 3), made(scarf, 9, 1, 3, 10, 1, -3), made(scarf, 9, 1, 3, 8, 1, -3),
		made(scarf, 9, 1, 3, 0, 0, 3), made(scarf, 9, 1, 9, 0, 9, 3), made(scarf, 9, 1, 9, 0, -1, 1), made(scarf, 9, 1, 1, 0, 1, 9), made(scarf, 9, 1, 1, 9, 1, -9),
		made(scarf, 9, 1, 3, 0, 1, 0), made(scarf, 9, 1, 5, 0, 6, 3), made(scarf, 9, 1, 5, 9, 6, -3),
		made(fingers, 1, 4, 1, 0), made(fingers, 1, 4, 1, 4), made(fingers, 1, 4, 1, 1, 1), made(fingers, 1, 4, 1, 2, 1), made(fingers, 1, 4, 1, -1, 1),
		made(dowels, 4, 6, 6, 2, 0, 0, 1, 1, 0, 3, 3), made(dowels, 4, 6, 6, 2, 2, 2, 1, 1, 0, 3, 3), made(dowels, 4, 6, 6, 2, 2, 4, 1, 1, 0, 3, 3),
		made(dowels, 4, 6, 6, 2, 2, 3, 0, 1, 0, 3, 3), made(dowels, 4, 6, 6, 2, 2, 3, 1, 0, 0, 3, 3), made(dowels, 6, 6, 6, 3, 2, 3, 1, 1, -1, 3, 3),
		made(dowels, 4, 6, 6, 1, 2, 3, 1, 1, 0, 3, 3), made(dowels, 9, 6, 6, 2, 2, 3, 1, 1, 1, 3, 3), made(dowels, 3, 6, 6, 2, 2, 3, 1, 1, 0, 3, 3), made(dowels, 5, 6, 6, 3, 2, 3, 1, 1, 1, 3, 3),
		made(dowels, 4, 6, 6, 2, 2, 3, 1, 1, 0, 2, 3), made(dowels, 4, 5, 6, 2, 2, 3, 1, 1, 0, 3, 3), made(dowels, 4, 6, 6, 2, 2, 3, 1, 1, 0, 3, 2), made(dowels, 4, 6, 5, 2, 2, 3, 1, 1, 0, 3, 3),
		made(dowels, 8, 14, 8, 4, 2, 3, 2, 2, 1, 3, 3, 7, 5), made(dowels, 8, 14, 8, 4, 2, 3, 2, 2, 1, 3, 3, 8, 6), made(dowels, 8, 14, 8, 4, 2, 3, 2, 2, 1, 3, 3, 8, 2), made(dowels, 8, 10, 8, 4, 2, 3, 2, 2, 1, 3, 3, 8, 5),
		made(spline, 2, 3, 3, 2, 1, 1, 1, 2), made(spline, 3, 2, 3, 2, 1, 1, 1, 2), made(spline, 2, 2, 3, 2, 0, 1, 1, 2), made(spline, 2, 2, 3, 2, 1, 0, 1, 2), made(spline, 9, 9, 3, 1, 1, 1, 1, 2),
		made(spline, 3, 3, 4, 5, 1, 1, 1, 3), made(spline, 2, 2, 3, 2, 1, 1, 0, 2), made(spline, 2, 2, 3, 2, 1, 1, 2, 2), made(spline, 2, 2, 3, 2, 1, 1, 1, 3),
		made(three, 3, 3, 2, 0, 1, 2, 1, 2), made(three, 3, 3, 2, 2, 1, 2, 1, 2), made(three, 3, 3, 2, 1, 0, 2, 1, 2), made(three, 3, 3, 2, 1, 2, 2, 1, 2),
		made(three, 3, 3, 2, 1, 1, 3, 1, 2), made(three, 3, 3, 2, 1, 1, 2, 0, 2), made(three, 3, 3, 2, 1, 1, 2, 2, 2), made(three, 3, 3, 2, 1, 1, 2, 1, 3),
	}
	for _, j := range wrong {
		if e := joint.Check(j); e != api.ErrForm {
			t.Errorf("%v: %d, want ErrForm", j, e)
		}
	}
}

// conditions is the table of the chapter, word by word.
func conditions(j api.Joint) bool {
	l, w, t, n := j.Size[0], j.Size[1], j.Size[2], j.Numbers
	switch j.Kind {
	case lap:
		return 0 < n[0] && n[0] < t
	case bridle:
		return 0 < n[0] && n[0] < n[1] && n[1] < t
	case tenon:
		return 0 < n[0] && n[0] < n[1] && n[1] < w && 0 < n[2] && n[2] < n[3] && n[3] < t
	case stopped:
		return conditions(made(tenon, l, w, t, n[2:]...)) && 0 < n[0] && 0 <= n[1] && n[0]+n[1] < l
	case tongue:
		return 0 < n[2] && n[2] < n[3] && n[3] < t && 0 < n[0] && 0 <= n[1] && n[0]+n[1] < l
	case dovetail:
		return dovetailConditions(l, w, n[0], n[1], n[2:])
	case scarf:
		x1, p, q := n[0], n[1], n[2]
		if p < 1 || p > 8 || q < -8 || q > 8 || q == 0 || q*t%p != 0 {
			return false
		}
		x2 := x1 + q*t/p
		return 0 <= x1 && x1 <= l && 0 <= x2 && x2 <= l
	case fingers:
		return n[0] > 0 && n[len(n)-1] < w && slices.IsSorted(n) && len(slices.Compact(slices.Clone(n))) == len(n)
	case dowels:
		return dowelConditions(l, w, t, n)
	case spline:
		c, h, d := n[0], n[1], n[2]
		return l == w && 0 < h && 0 < d && h+d <= c && c+h+d <= 2*l && 0 < n[3] && n[3] < n[4] && n[4] < t
	}
	return 0 < n[0] && n[0] < t && 0 < n[1] && n[1] < n[2] && n[2] < l && 0 < n[3] && n[3] < n[4] && n[4] < w
}

func dovetailConditions(l, w, s, wide int, p []int) bool {
	if s < 1 || s > 8 || l%s != 0 || wide <= 0 {
		return false
	}
	k := l / s
	right := p[0] >= k && w >= p[len(p)-1]+wide+k
	for i := 1; i < len(p); i++ {
		right = right && p[i] >= p[i-1]+wide+2*k
	}
	return right
}

func dowelConditions(l, w, t int, n []int) bool {
	m, r, e, a, b, gap := n[0], n[1], n[2], n[3], n[4], n[5]
	right := 0 < r && r < e && e < 2*r && a > 0 && b > 0 && gap >= 0 && b+gap < m && m+a+gap < l
	right = right && n[6] > r && n[len(n)-2]+r < w
	for i := 6; i < len(n); i += 2 {
		right = right && r < n[i+1] && n[i+1]+r < t && (i == 6 || n[i] > n[i-2]+2*r)
	}
	return right
}

// P3.1: the conditions of joints that are right, or nearly.
func TestCheckConditions(t *testing.T) {
	random := steadily(1)
	for kind := range countKinds {
		var seen [2]int
		for range 3000 {
			j := anyJoint(random, kind)
			if !conditions(j) {
				t.Fatalf("%v is not right", j)
			}
			for range random.IntN(3) {
				j.Numbers[random.IntN(len(j.Numbers))] += number(random, -2, 2)
			}
			if random.IntN(3) == 0 {
				i := random.IntN(3)
				j.Size[i] = max(1, j.Size[i]+number(random, -2, 2))
			}
			want := api.ErrForm
			if conditions(j) {
				want = api.OK
				seen[1]++
			} else {
				seen[0]++
			}
			if e := joint.Check(j); e != want {
				t.Fatalf("%v: %d, want %d", j, e, want)
			}
		}
		if min(seen[0], seen[1]) < 100 {
			t.Errorf("kind %d: %d wrong and right joints are too few", kind, seen)
		}
	}
}

// P3.1: names and members of the kinds.
func TestKinds(t *testing.T) {
	names := []string{"lap", "bridle", "tenon", "stopped", "tongue", "dovetail", "scarf", "fingers", "dowels", "spline", "three"}
	for kind, name := range names {
		if s, e := joint.KindName(kind); s != name || e != api.OK {
			t.Errorf("kind %d: %q, %d", kind, s, e)
		}
		if n, e := joint.KindOf(name); n != kind || e != api.OK {
			t.Errorf("%s: %d, %d", name, n, e)
		}
		want := 2
		if name == "three" {
			want = 3
		}
		if n, e := joint.Members(kind); n != want || e != api.OK {
			t.Errorf("members of %s: %d, %d", name, n, e)
		}
	}
	for _, kind := range []int{-1, 11, math.MinInt, math.MaxInt} {
		if s, e := joint.KindName(kind); s != "" || e != api.ErrKind {
			t.Errorf("kind %d: %q, %d", kind, s, e)
		}
		if n, e := joint.Members(kind); n != 0 || e != api.ErrKind {
			t.Errorf("members of %d: %d, %d", kind, n, e)
		}
	}
	for _, name := range []string{"", "Lap", "lap ", " lap", "la", "laps", "0", "lap\n"} {
		if n, e := joint.KindOf(name); n != 0 || e != api.ErrMissing {
			t.Errorf("%q: %d, %d", name, n, e)
		}
	}
}

// P3.1: loose members.
func TestLoose(t *testing.T) {
	for _, j := range plain() {
		want := map[int]int{dowels: 2, spline: 1}[j.Kind]
		if n, e := joint.Loose(j); n != want || e != api.OK {
			t.Errorf("%v: %d, %d", j, n, e)
		}
	}
	nine := made(dowels, 60, 100, 30, 30, 4, 6, 10, 12, 2)
	for i := range 9 {
		nine.Numbers = append(nine.Numbers, 10+10*i, 10+i)
		if n, e := joint.Loose(nine); n != i+1 || e != api.OK {
			t.Errorf("%d dowels: %d, %d", i+1, n, e)
		}
	}
	if n, e := joint.Loose(made(dowels, 60, 40, 30)); n != 0 || e != api.ErrShape {
		t.Errorf("without numbers: %d, %d", n, e)
	}
}
