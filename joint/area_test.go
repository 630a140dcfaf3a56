package joint_test

import (
	"cmp"
	"slices"
	"testing"

	"spokeshave/api"
	"spokeshave/joint"
	"spokeshave/solid"
)

// touching returns the areas where different ones of some solids touch, projected along the axes.
func touching(t *testing.T, all []api.Solid) [3]int {
	t.Helper()
	var areas [3]int
	for i, a := range all {
		for _, b := range all[i+1:] {
			l, e := solid.Touches(a, b)
			if e != api.OK {
				t.Fatalf("touches: %d", e)
			}
			for _, c := range l {
				for axis := range areas {
					areas[axis] += shadow(t, c.Corners, axis)
				}
			}
		}
	}
	for axis := range areas {
		areas[axis] /= 2 * scale * scale
	}
	return areas
}

// shadow returns twice the area of the hull of some points, scaled and projected along an axis: the points are taken by the hull's upper and lower chains.
func shadow(t *testing.T, corners []api.Corner, axis int) int {
	t.Helper()
	var points [][2]int
	for _, c := range corners {
		if scale%c.Den != 0 {
			t.Fatalf("the corner %v", c)
		}
		at, f := [3]int{c.X, c.Y, c.Z}, scale/c.Den
		points = append(points, [2]int{at[(axis+1)%3] * f, at[(axis+2)%3] * f})
	}
	slices.SortFunc(points, func(a, b [2]int) int { return cmp.Or(cmp.Compare(a[0], b[0]), cmp.Compare(a[1], b[1])) })
	area := 0
	for range 2 {
		var chain [][2]int
		for _, p := range points {
			for len(chain) > 1 && turns(chain[len(chain)-2], chain[len(chain)-1], p) <= 0 {
				chain = chain[:len(chain)-1]
			}
			chain = append(chain, p)
		}
		for i := range len(chain) - 1 {
			area += chain[i][0]*chain[i+1][1] - chain[i+1][0]*chain[i][1]
		}
		slices.Reverse(points)
	}
	return area
}

// turns is above 0 if the way from a by b to c turns to the left.
func turns(a, b, c [2]int) int {
	return (b[0]-a[0])*(c[1]-a[1]) - (b[1]-a[1])*(c[0]-a[0])
}

// P3.5: the areas are those where the members touch.
func TestArea(t *testing.T) {
	random := steadily(5)
	for kind := range countKinds {
		for range 40 {
			j := anyJoint(random, kind)
			all, _ := keeps(t, j)
			if areas, e := joint.Area(j); e != api.OK || areas != touching(t, all) {
				t.Fatalf("%v: %v, %d, want %v", j, areas, e, touching(t, all))
			}
		}
	}
}

// P3.5: areas by the formulas of the chapter, with those of its examples.
func TestAreaExamples(t *testing.T) {
	for _, x := range []struct {
		j    api.Joint
		want [3]int
	}{
		{made(lap, 4000, 4000, 2000, 1000), [3]int{0, 0, 16000000}},
		{made(bridle, 4000, 3000, 2000, 700, 1300), [3]int{0, 0, 24000000}},
		{made(tenon, 60, 40, 30, 10, 30, 10, 15), [3]int{0, 600, 2400}},
		{made(stopped, 60, 40, 30, 25, 5, 10, 30, 10, 15), [3]int{0, 250, 1000}},
		{made(stopped, 60, 40, 30, 25, 0, 10, 30, 10, 15), [3]int{100, 250, 1000}},
		{made(tongue, 60, 40, 30, 25, 5, 10, 15), [3]int{0, 0, 2000}},
		{made(tongue, 60, 40, 30, 25, 0, 10, 15), [3]int{200, 0, 2000}},
		{made(dovetail, 1200, 6000, 2000, 6, 2000, 2000), [3]int{800000, 4800000, 0}},
		{made(dovetail, 1200, 6000, 2000, 6, 1000, 1000, 3000), [3]int{1600000, 9600000, 0}},
		{made(scarf, 12000, 3000, 2000, 0, 1, 6), [3]int{6000000, 0, 36000000}},
		{made(scarf, 12000, 3000, 2000, 9000, 1, -4), [3]int{6000000, 0, 24000000}},
		{made(fingers, 30, 40, 20, 10, 20, 30), [3]int{0, 1800, 0}},
		{made(dowels, 60, 40, 30, 30, 4, 6, 10, 12, 2, 10, 15, 30, 14), [3]int{1200 - 2*56, 704, 704}},
		{made(dowels, 60, 40, 30, 30, 4, 6, 10, 12, 0, 10, 15, 30, 14), [3]int{1200 - 2*56 + 4*56, 704, 704}},
		{made(spline, 40, 40, 30, 40, 5, 6, 10, 20), [3]int{1370, 1370, 120}},
		{made(three, 50, 40, 30, 12, 15, 25, 14, 30), [3]int{960, 600, 1840}},
		{made(lap, 100000, 100000, 100000, 1), [3]int{0, 0, 10000000000}},
	} {
		if areas, e := joint.Area(x.j); e != api.OK || areas != x.want {
			t.Errorf("%v: %v, %d, want %v", x.j, areas, e, x.want)
		}
	}
	if areas, e := joint.Area(made(lap, 1, 1, 2, 2)); e != api.ErrForm || areas != [3]int{} {
		t.Errorf("a wrong joint: %v, %d", areas, e)
	}
}
