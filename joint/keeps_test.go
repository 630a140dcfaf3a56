package joint_test

import (
	"math"
	"testing"

	"spokeshave/api"
	"spokeshave/joint"
	"spokeshave/solid"
)

// points tells which points of the box belong to a cell.
type points func(x, y, z int) bool

// cellsOf is the table of the chapter, word by word: the cells of each member, loose ones, too, and the gaps.
func cellsOf(j api.Joint) ([][]points, []points) {
	l, w, n := j.Size[0], j.Size[1], j.Numbers
	switch j.Kind {
	case lap:
		return [][]points{
			{func(x, y, z int) bool { return z >= n[0] }},
			{func(x, y, z int) bool { return z <= n[0] }},
		}, nil
	case bridle:
		return [][]points{
			{func(x, y, z int) bool { return z <= n[0] }, func(x, y, z int) bool { return z >= n[1] }},
			{func(x, y, z int) bool { return n[0] <= z && z <= n[1] }},
		}, nil
	case tenon:
		y1, y2, z1, z2 := n[0], n[1], n[2], n[3]
		return [][]points{
			{func(x, y, z int) bool { return y1 <= y && y <= y2 && z1 <= z && z <= z2 }},
			{
				func(x, y, z int) bool { return y <= y1 },
				func(x, y, z int) bool { return y >= y2 },
				func(x, y, z int) bool { return y1 <= y && y <= y2 && z <= z1 },
				func(x, y, z int) bool { return y1 <= y && y <= y2 && z >= z2 },
			},
		}, nil
	case stopped:
		return stoppedCells(l, n)
	case tongue:
		return tongueCells(l, n)
	case dovetail:
		return dovetailCells(l, n[0], n[1], n[2:]), nil
	case scarf:
		x1, p, q := n[0], n[1], n[2]
		return [][]points{
			{func(x, y, z int) bool { return p*x-q*z >= p*x1 }},
			{func(x, y, z int) bool { return p*x-q*z <= p*x1 }},
		}, nil
	case fingers:
		return fingerCells(w, n), nil
	case dowels:
		return dowelCells(w, n)
	case spline:
		return splineCells(n[0], n[1], n[2], n[3], n[4]), nil
	}
	return threeCells(n[0], n[1], n[2], n[3], n[4]), nil
}

func stoppedCells(l int, n []int) ([][]points, []points) {
	depth, gap, y1, y2, z1, z2 := n[0], n[1], n[2], n[3], n[4], n[5]
	hole := func(y, z int) bool { return y1 <= y && y <= y2 && z1 <= z && z <= z2 }
	var gaps []points
	if gap != 0 {
		gaps = append(gaps, func(x, y, z int) bool { return l-depth-gap <= x && x <= l-depth && hole(y, z) })
	}
	return [][]points{
		{func(x, y, z int) bool { return x >= l-depth && hole(y, z) }},
		{
			func(x, y, z int) bool { return y <= y1 },
			func(x, y, z int) bool { return y >= y2 },
			func(x, y, z int) bool { return y1 <= y && y <= y2 && z <= z1 },
			func(x, y, z int) bool { return y1 <= y && y <= y2 && z >= z2 },
			func(x, y, z int) bool { return x <= l-depth-gap && hole(y, z) },
		},
	}, gaps
}

func tongueCells(l int, n []int) ([][]points, []points) {
	depth, gap, z1, z2 := n[0], n[1], n[2], n[3]
	var gaps []points
	if gap != 0 {
		gaps = append(gaps, func(x, y, z int) bool { return l-depth-gap <= x && x <= l-depth && z1 <= z && z <= z2 })
	}
	return [][]points{
		{func(x, y, z int) bool { return x >= l-depth && z1 <= z && z <= z2 }},
		{
			func(x, y, z int) bool { return z <= z1 },
			func(x, y, z int) bool { return z >= z2 },
			func(x, y, z int) bool { return x <= l-depth-gap && z1 <= z && z <= z2 },
		},
	}, gaps
}

func dovetailCells(l, s, w int, p []int) [][]points {
	var a, b []points
	b = append(b, func(x, y, z int) bool { return x-s*y >= l-s*p[0] })
	for i := range p {
		a = append(a, func(x, y, z int) bool { return x-s*y <= l-s*p[i] && x+s*y <= l+s*(p[i]+w) })
		if i+1 < len(p) {
			b = append(b, func(x, y, z int) bool { return x+s*y >= l+s*(p[i]+w) && x-s*y >= l-s*p[i+1] })
		}
	}
	b = append(b, func(x, y, z int) bool { return x+s*y >= l+s*(p[len(p)-1]+w) })
	return [][]points{a, b}
}

func fingerCells(w int, n []int) [][]points {
	members := [][]points{nil, nil}
	for i := range len(n) + 1 {
		low, high := 0, w
		if i > 0 {
			low = n[i-1]
		}
		if i < len(n) {
			high = n[i]
		}
		members[i%2] = append(members[i%2], func(x, y, z int) bool { return low <= y && y <= high })
	}
	return members
}

func dowelCells(w int, n []int) ([][]points, []points) {
	m, r, e, a, b, gap, at := n[0], n[1], n[2], n[3], n[4], n[5], n[6:]
	strips := func(with func(x int) bool) []points {
		var l []points
		for i := 0; i < len(at); i += 2 {
			yi, zi, low, high := at[i], at[i+1], 0, at[i]+r
			if i > 0 {
				low = at[i-2] + r
			}
			if i == len(at)-2 {
				high = w
			}
			strip := func(x, y int) bool { return with(x) && low <= y && y <= high }
			y := func(x, y int) bool { return strip(x, y) && max(y-yi, yi-y) <= r }
			yz := func(x, y0, z int) bool { return y(x, y0) && max(z-zi, zi-z) <= r }
			l = append(l, func(x, y, z int) bool { return strip(x, y) && y <= yi-r })
			if i == len(at)-2 {
				l = append(l, func(x, y, z int) bool { return strip(x, y) && y >= yi+r })
			}
			l = append(l,
				func(x, y0, z int) bool { return y(x, y0) && z <= zi-r },
				func(x, y0, z int) bool { return y(x, y0) && z >= zi+r },
				func(x, y, z int) bool { return yz(x, y, z) && y+z >= yi+zi+e },
				func(x, y, z int) bool { return yz(x, y, z) && y-z >= yi-zi+e },
				func(x, y, z int) bool { return yz(x, y, z) && z-y >= zi-yi+e },
				func(x, y, z int) bool { return yz(x, y, z) && y+z <= yi+zi-e },
			)
		}
		return l
	}
	first := append([]points{func(x, y, z int) bool { return x >= m+a+gap }}, strips(func(x int) bool { return m <= x && x <= m+a+gap })...)
	second := append([]points{func(x, y, z int) bool { return x <= m-b-gap }}, strips(func(x int) bool { return m-b-gap <= x && x <= m })...)
	members := [][]points{first, second}
	var gaps []points
	for i := 0; i < len(at); i += 2 {
		hole := func(y, z int) bool {
			dy, dz := max(y-at[i], at[i]-y), max(z-at[i+1], at[i+1]-z)
			return dy <= r && dz <= r && dy+dz <= e
		}
		members = append(members, []points{func(x, y, z int) bool { return hole(y, z) && m-b <= x && x <= m+a }})
		if gap != 0 {
			gaps = append(gaps,
				func(x, y, z int) bool { return hole(y, z) && m+a <= x && x <= m+a+gap },
				func(x, y, z int) bool { return hole(y, z) && m-b-gap <= x && x <= m-b },
			)
		}
	}
	return members, gaps
}

func splineCells(c, h, d, z1, z2 int) [][]points {
	half := func(from func(x, y int) int) []points {
		in := func(x, y, z int) bool { return from(x, y) >= 0 && z1 <= z && z <= z2 }
		return []points{
			func(x, y, z int) bool { return from(x, y) >= 0 && z <= z1 },
			func(x, y, z int) bool { return from(x, y) >= 0 && z >= z2 },
			func(x, y, z int) bool { return in(x, y, z) && x+y <= c-h },
			func(x, y, z int) bool { return in(x, y, z) && x+y >= c+h },
			func(x, y, z int) bool { return in(x, y, z) && c-h <= x+y && x+y <= c+h && from(x, y) >= d },
		}
	}
	return [][]points{
		half(func(x, y int) int { return x - y }),
		half(func(x, y int) int { return y - x }),
		{func(x, y, z int) bool {
			return c-h <= x+y && x+y <= c+h && -d <= x-y && x-y <= d && z1 <= z && z <= z2
		}},
	}
}

func threeCells(h, x1, x2, y1, y2 int) [][]points {
	around := func(with func(z int) bool) []points {
		return []points{
			func(x, y, z int) bool { return with(z) && x <= x1 },
			func(x, y, z int) bool { return with(z) && x >= x2 },
			func(x, y, z int) bool { return with(z) && x1 <= x && x <= x2 && y <= y1 },
			func(x, y, z int) bool { return with(z) && x1 <= x && x <= x2 && y >= y2 },
		}
	}
	return [][]points{
		around(func(z int) bool { return z >= h }),
		around(func(z int) bool { return z <= h }),
		{func(x, y, z int) bool { return x1 <= x && x <= x2 && y1 <= y && y <= y2 }},
	}
}

// checkCells tests that a solid has just these cells, in their order and in normal form, by all whole points in the box and next to it.
func checkCells(t *testing.T, j api.Joint, s api.Solid, want []points) {
	t.Helper()
	if len(s.Cells) != len(want) {
		t.Fatalf("%v: %d cells, want %d", j, len(s.Cells), len(want))
	}
	for i, c := range s.Cells {
		if form, e := solid.Normal(c); e != api.OK || !alike(form, c) {
			t.Fatalf("%v: cell %d is %v, in normal form %v, %d", j, i, c, form, e)
		}
		for x := -1; x <= j.Size[0]+1; x++ {
			for y := -1; y <= j.Size[1]+1; y++ {
				for z := -1; z <= j.Size[2]+1; z++ {
					inBox := x >= 0 && y >= 0 && z >= 0 && x <= j.Size[0] && y <= j.Size[1] && z <= j.Size[2]
					if has(c, x, y, z) != (inBox && want[i](x, y, z)) {
						t.Fatalf("%v: cell %d, the point %d %d %d", j, i, x, y, z)
					}
				}
			}
		}
	}
}

// has reports whether a point is beyond no plane of a cell.
func has(c api.Cell, x, y, z int) bool {
	for _, p := range c.Planes {
		if p.A*x+p.B*y+p.C*z > p.D {
			return false
		}
	}
	return true
}

// P3.2: what members keep, and gaps, point by point.
func TestKeeps(t *testing.T) {
	random := steadily(2)
	for kind := range countKinds {
		for range 60 {
			j := anyJoint(random, kind)
			members, gaps := cellsOf(j)
			all, none := keeps(t, j)
			if len(all) != len(members) {
				t.Fatalf("%v: %d members, want %d", j, len(all), len(members))
			}
			for i, s := range all {
				checkCells(t, j, s, members[i])
			}
			checkCells(t, j, none, gaps)
		}
	}
}

// P3.2: the first two examples of the chapter.
func TestKeepsExamples(t *testing.T) {
	a, e := joint.Keeps(made(lap, 4000, 4000, 2000, 1000), 0)
	want := api.Solid{Cells: []api.Cell{{Planes: []api.Plane{{A: -1}, {B: -1}, {C: -1, D: -1000}, {C: 1, D: 2000}, {B: 1, D: 4000}, {A: 1, D: 4000}}}}}
	if e != api.OK || !alike(a, want) {
		t.Errorf("lap: %v, %d", a, e)
	}
	a, e = joint.Keeps(made(dovetail, 1200, 6000, 2000, 6, 2000, 2000), 0)
	want = api.Solid{Cells: []api.Cell{{Planes: []api.Plane{{A: -1}, {C: -1}, {C: 1, D: 2000}, {A: 1, B: -6, D: -10800}, {A: 1, D: 1200}, {A: 1, B: 6, D: 25200}}}}}
	if e != api.OK || !alike(a, want) {
		t.Errorf("dovetail: %v, %d", a, e)
	}
	b, e := joint.Keeps(made(dovetail, 1200, 6000, 2000, 6, 2000, 2000), 1)
	if e != api.OK || len(b.Cells) != 2 {
		t.Errorf("dovetail: %v, %d", b, e)
	}
}

// P3.2: slanted faces whose numbers have a common divisor are in lowest form.
func TestKeepsLowest(t *testing.T) {
	for member, sign := range []int{-1, 1} {
		s, e := joint.Keeps(made(scarf, 20, 5, 6, 4, 4, 2), member)
		if e != api.OK || len(s.Cells) != 1 {
			t.Fatalf("%v, %d", s, e)
		}
		slanted := api.Plane{A: 2 * sign, C: -sign, D: 8 * sign}
		found := false
		for _, p := range s.Cells[0].Planes {
			found = found || p == slanted
		}
		if !found {
			t.Errorf("member %d: %v", member, s)
		}
	}
}

// More exactly: the most cells that a member can have, and the most planes of a cell.
func TestKeepsMost(t *testing.T) {
	j := made(dowels, 1000, 1000, 100, 500, 20, 30, 100, 100, 10)
	for i := range 9 {
		j.Numbers = append(j.Numbers, 50+100*i, 40+i)
	}
	all, gaps := keeps(t, j)
	if len(all) != 11 || len(gaps.Cells) != 18 {
		t.Fatalf("%d members, %d gaps", len(all), len(gaps.Cells))
	}
	for i, s := range all {
		want := 65
		if i > 1 {
			want = 1
		}
		if e := solid.Check(s); e != api.OK || len(s.Cells) != want {
			t.Errorf("member %d: %d cells, %d", i, len(s.Cells), e)
		}
	}
}

// P3.2: members that are not there.
func TestKeepsErrors(t *testing.T) {
	for _, j := range plain() {
		all, _ := keeps(t, j)
		for _, member := range []int{-1, len(all), math.MinInt, math.MaxInt} {
			if s, e := joint.Keeps(j, member); e != api.ErrMissing || len(s.Cells) > 0 {
				t.Errorf("%v, member %d: %v, %d", j, member, s, e)
			}
		}
	}
	wrong := made(lap, 1, 1, 2, 2)
	if s, e := joint.Keeps(wrong, 9); e != api.ErrForm || len(s.Cells) > 0 {
		t.Errorf("a wrong joint: %v, %d", s, e)
	}
	if s, e := joint.Gaps(wrong); e != api.ErrForm || len(s.Cells) > 0 {
		t.Errorf("gaps of a wrong joint: %v, %d", s, e)
	}
}
