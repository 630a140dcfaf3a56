package joint_test

import (
	"testing"

	"spokeshave/api"
	"spokeshave/joint"
)

// P3.6: each rule at its bounds.
func TestProportions(t *testing.T) {
	for _, x := range []struct {
		j    api.Joint
		want []int
	}{
		{made(lap, 9, 9, 8, 2), nil}, {made(lap, 9, 9, 8, 6), nil}, {made(lap, 9, 9, 8, 1), []int{0}}, {made(lap, 9, 9, 8, 7), []int{0}},
		{made(lap, 9, 9, 9, 2), []int{0}}, {made(lap, 9, 9, 9, 3), nil}, {made(lap, 9, 9, 7, 2), nil},
		{made(bridle, 9, 9, 12, 3, 9), nil}, {made(bridle, 9, 9, 12, 2, 9), []int{0}}, {made(bridle, 9, 9, 12, 3, 10), []int{0}},
		{made(bridle, 9, 9, 12, 4, 6), []int{0}}, {made(bridle, 9, 9, 12, 4, 7), nil}, {made(bridle, 9, 9, 9, 2, 6), []int{0}},
		{made(tenon, 9, 16, 12, 2, 14, 4, 7), nil}, {made(tenon, 9, 16, 12, 2, 14, 4, 6), []int{1}}, {made(tenon, 9, 16, 12, 2, 14, 3, 9), nil},
		{made(tenon, 9, 16, 12, 2, 14, 3, 10), []int{1}}, {made(tenon, 9, 16, 12, 1, 14, 4, 7), []int{3}}, {made(tenon, 9, 16, 12, 2, 15, 4, 7), []int{3}},
		{made(tenon, 9, 16, 13, 2, 14, 4, 7), []int{1}}, {made(tenon, 9, 16, 13, 2, 14, 4, 10), nil}, {made(tenon, 9, 16, 13, 2, 14, 4, 11), []int{1}},
		{made(tenon, 9, 17, 12, 2, 14, 4, 7), []int{3}}, {made(tenon, 9, 16, 12, 1, 14, 1, 11), []int{1, 3}},
		{made(stopped, 10, 16, 12, 5, 1, 2, 14, 4, 7), nil}, {made(stopped, 10, 16, 12, 4, 1, 2, 14, 4, 7), []int{2}}, {made(stopped, 11, 16, 12, 5, 1, 2, 14, 4, 7), []int{2}},
		{made(stopped, 10, 16, 12, 5, 0, 1, 14, 4, 6), []int{1, 3}}, {made(stopped, 10, 16, 12, 4, 0, 2, 15, 3, 10), []int{1, 2, 3}},
		{made(tongue, 10, 2, 12, 5, 1, 4, 7), nil}, {made(tongue, 10, 2, 12, 4, 1, 4, 7), []int{2}}, {made(tongue, 10, 2, 12, 5, 1, 4, 6), []int{1}},
		{made(tongue, 10, 2, 12, 4, 1, 3, 10), []int{1, 2}},
		{made(dovetail, 6, 12, 16, 6, 4, 3), nil}, {made(dovetail, 5, 12, 16, 5, 4, 3), []int{4}}, {made(dovetail, 6, 12, 16, 6, 4, 2), []int{5}},
		{made(dovetail, 6, 9, 16, 6, 4, 3), []int{5}}, {made(dovetail, 6, 10, 16, 6, 4, 3), nil}, {made(dovetail, 6, 10, 17, 6, 4, 3), []int{5}},
		{made(dovetail, 6, 20, 16, 6, 4, 3, 11), nil}, {made(dovetail, 6, 20, 16, 6, 4, 3, 10), []int{5}}, {made(dovetail, 4, 20, 16, 4, 4, 3, 10), []int{4, 5}},
		{made(dovetail, 8, 7, 1, 8, 5, 1), []int{5}}, {made(dovetail, 7, 12, 16, 7, 4, 3), nil},
		{made(scarf, 12, 3, 2, 0, 1, 6), nil}, {made(scarf, 12, 3, 2, 0, 1, 5), []int{6}}, {made(scarf, 12, 3, 2, 12, 1, -6), nil}, {made(scarf, 12, 3, 2, 12, 1, -5), []int{6}},
		{made(scarf, 14, 3, 2, 0, 1, 7), nil},
		{made(fingers, 9, 9, 9, 1), nil},
		{made(dowels, 99, 99, 8, 50, 2, 3, 6, 6, 0, 9, 4), nil}, {made(dowels, 99, 99, 8, 50, 2, 3, 5, 6, 0, 9, 4), []int{2}}, {made(dowels, 99, 99, 8, 50, 2, 3, 6, 5, 0, 9, 4), []int{2}},
		{made(dowels, 99, 99, 7, 50, 2, 3, 6, 6, 0, 9, 4), []int{7}}, {made(dowels, 99, 99, 8, 50, 2, 3, 6, 6, 0, 9, 4, 21, 4), nil},
		{made(dowels, 99, 99, 8, 50, 2, 3, 6, 6, 0, 9, 4, 20, 4), []int{7}}, {made(dowels, 99, 99, 8, 50, 2, 3, 6, 6, 0, 9, 4, 21, 4, 32, 4), []int{7}},
		{made(dowels, 99, 99, 8, 50, 2, 3, 1, 1, 0, 9, 4, 20, 4, 40, 4), []int{2, 7}},
		{made(spline, 40, 40, 8, 40, 5, 6, 2, 6), nil}, {made(spline, 40, 40, 8, 40, 5, 6, 1, 6), []int{3}}, {made(spline, 40, 40, 8, 40, 5, 6, 2, 7), []int{3}},
		{made(spline, 40, 40, 9, 40, 5, 6, 2, 6), []int{3}}, {made(spline, 40, 40, 9, 40, 5, 6, 3, 6), nil},
		{made(three, 9, 9, 8, 2, 1, 2, 1, 2), nil}, {made(three, 9, 9, 8, 6, 1, 2, 1, 2), nil}, {made(three, 9, 9, 8, 1, 1, 2, 1, 2), []int{0}}, {made(three, 9, 9, 8, 7, 1, 2, 1, 2), []int{0}},
	} {
		if l, e := joint.Proportions(x.j); e != api.OK || !alike(l, x.want) {
			t.Errorf("%v: %v, %d, want %v", x.j, l, e, x.want)
		}
	}
	if l, e := joint.Proportions(made(lap, 9, 9, 8, 8)); e != api.ErrForm || len(l) > 0 {
		t.Errorf("a wrong joint: %v, %d", l, e)
	}
}
