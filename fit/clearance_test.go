package fit_test

import (
	"slices"
	"testing"

	"spokeshave/api"
	"spokeshave/fit"
)

// P6.2: the examples of the chapter, and pieces that move far or not at all.
func TestSizeExamples(t *testing.T) {
	width := examplePanel().Width
	side := drawer().Inner[0]
	for _, x := range []struct {
		p         api.Made
		low, high int
		want      api.Interval
	}{
		{width, 60, 60, api.Interval{Lo: 39760, Hi: 39760}},
		{width, 120, 120, api.Interval{Lo: 40480, Hi: 40480}},
		{width, 60, 120, api.Interval{Lo: 39760, Hi: 40480}},
		{side, 100, 100, api.Interval{Lo: 50088, Hi: 50109}}, // 49790 * 1.006 = 50088.74, 49810 * 1.006 = 50108.86
		{side, 80, 80, api.Interval{Lo: 49790, Hi: 49810}},
		{side, 80, 100, api.Interval{Lo: 49790, Hi: 50109}},
		{api.Made{Size: 600000, Rate: 2000}, 280, 280, api.Interval{Lo: 936000, Hi: 936000}},
		{api.Made{Size: 600000, Rate: 2000}, 281, 400, api.Interval{Lo: 936000, Hi: 936000}},
		{api.Made{Size: 600000, Rate: 2000, Moisture: 400}, 0, 0, api.Interval{Lo: 264000, Hi: 264000}},
		{api.Made{Rate: 2000, Plus: 1}, 1, 2, api.Interval{Lo: 0, Hi: 2}},
		{api.Made{Size: 5, Minus: 5, Plus: 7}, 0, 400, api.Interval{Lo: 0, Hi: 12}},
		{api.Made{}, 0, 400, api.Interval{}},
	} {
		if r, e := fit.SizeOver(x.p, api.Season{Name: "a", Low: x.low, High: x.high}); r != x.want || e != api.OK {
			t.Errorf("SizeOver %v, %d to %d: %v, %d, want %v", x.p, x.low, x.high, r, e, x.want)
		}
		if x.low != x.high {
			continue
		}
		if r, e := fit.SizeAt(x.p, x.low); r != x.want || e != api.OK {
			t.Errorf("SizeAt %v, %d: %v, %d, want %v", x.p, x.low, r, e, x.want)
		}
	}
}

// P6.2: intervals are those of the definition.
func TestSizesByDefinition(t *testing.T) {
	random := steadily(2)
	for range 3000 {
		p := anyMade(random)
		low := random.IntN(401)
		high := low + random.IntN(401-low)
		least, most := exactly(p.Size-p.Minus, p, low), exactly(p.Size+p.Plus, p, high)
		if r, e := fit.SizeOver(p, api.Season{Name: "a", Low: low, High: high}); r != around(least, most) || e != api.OK {
			t.Fatalf("SizeOver %v, %d to %d: %v, %d", p, low, high, r, e)
		}
		if r, e := fit.SizeAt(p, low); r != around(least, exactly(p.Size+p.Plus, p, low)) || e != api.OK {
			t.Fatalf("SizeAt %v, %d: %v, %d", p, low, r, e)
		}
	}
}

// P6.3: the groups of fits.
func TestGroups(t *testing.T) {
	in := func(groups ...int) []api.Made {
		var l []api.Made
		for _, g := range groups {
			l = append(l, api.Made{Size: 10, Group: g})
		}
		return l
	}
	for _, x := range []struct{ outer, inner, want []int }{
		{nil, nil, nil},
		{[]int{0}, nil, []int{0}},
		{nil, []int{19}, []int{19}},
		{[]int{3, 1, 3}, []int{2, 1}, []int{1, 2, 3}},
		{[]int{19, 18, 17, 16, 15, 14, 13, 12, 11, 10}, []int{9, 8, 7, 6, 5, 4, 3, 2, 1, 0}, []int{0, 1, 2, 3, 4, 5, 6, 7, 8, 9, 10, 11, 12, 13, 14, 15, 16, 17, 18, 19}},
	} {
		if l, e := fit.Groups(api.Fit{Name: "a", Outer: in(x.outer...), Inner: in(x.inner...)}); !slices.Equal(l, x.want) || e != api.OK {
			t.Errorf("%v, %v: %v, %d, want %v", x.outer, x.inner, l, e, x.want)
		}
	}
}

// P6.3: the examples of the chapter, and fits without pieces.
func TestClearanceExamples(t *testing.T) {
	// 50000 - 50108.86 = -108.86 and 50000 - 50088.74 = -88.74.
	if r, e := fit.Clearance(drawer(), []int{100}); r != (api.Interval{Lo: -109, Hi: -88}) || e != api.OK {
		t.Errorf("drawer at 100: %v, %d", r, e)
	}
	if r, e := fit.ClearanceOver(drawer(), api.Season{Name: "a", Low: 80, High: 100}); r != (api.Interval{Lo: -109, Hi: 210}) || e != api.OK {
		t.Errorf("drawer from 80 to 100: %v, %d", r, e)
	}
	bottom := panelFits(t, 1000)[0]
	for _, x := range []struct {
		moistures []int
		want      int
	}{{[]int{120, 60}, 20}, {[]int{120, 400}, 20}, {[]int{80, 60}, 500}, {[]int{60, 120}, 740}} {
		if r, e := fit.Clearance(bottom, x.moistures); r != (api.Interval{Lo: x.want, Hi: x.want}) || e != api.OK {
			t.Errorf("bottom at %v: %v, %d, want %d", x.moistures, r, e, x.want)
		}
	}
	if r, e := fit.ClearanceOver(bottom, year()); r != (api.Interval{Lo: 20, Hi: 740}) || e != api.OK {
		t.Errorf("bottom over a year: %v, %d", r, e)
	}
	empty := api.Fit{Name: "a"}
	if r, e := fit.Clearance(empty, nil); r != (api.Interval{}) || e != api.OK {
		t.Errorf("no pieces: %v, %d", r, e)
	}
	if r, e := fit.ClearanceOver(empty, year()); r != (api.Interval{}) || e != api.OK {
		t.Errorf("no pieces over a year: %v, %d", r, e)
	}
}

// P6.3: there are as many moistures as groups.
func TestClearanceShape(t *testing.T) {
	bottom := panelFits(t, 1000)[0]
	for _, x := range []struct {
		f         api.Fit
		moistures []int
		want      api.Errno
	}{
		{bottom, nil, api.ErrShape},
		{bottom, []int{60}, api.ErrShape},
		{bottom, []int{60, 60, 60}, api.ErrShape}, // three pieces, but two groups
		{bottom, []int{-1}, api.ErrShape},
		{bottom, []int{60, -1}, api.ErrRange},
		{bottom, []int{401, 60}, api.ErrRange},
		{api.Fit{Name: "a"}, []int{60}, api.ErrShape},
	} {
		if r, e := fit.Clearance(x.f, x.moistures); r != (api.Interval{}) || e != x.want {
			t.Errorf("%v: %v, %d, want %d", x.moistures, r, e, x.want)
		}
	}
}

// P6.3: what pieces of one group do together; different groups know nothing of each other.
func TestGroupsMove(t *testing.T) {
	f := api.Fit{
		Name:  "a",
		Outer: []api.Made{{Size: 10000, Rate: 300, Moisture: 80, Group: 4}},
		Inner: []api.Made{{Size: 9000, Rate: 300, Moisture: 80, Group: 4}},
	}
	season := api.Season{Name: "a", Low: 80, High: 180}
	if r, e := fit.ClearanceOver(f, season); r != (api.Interval{Lo: 1000, Hi: 1030}) || e != api.OK {
		t.Errorf("one group: %v, %d", r, e)
	}
	f.Inner[0].Group = 7
	if r, e := fit.ClearanceOver(f, season); r != (api.Interval{Lo: 730, Hi: 1300}) || e != api.OK {
		t.Errorf("two groups: %v, %d", r, e)
	}
}

// P6.3: clearances are those of the definition, over a season for each moisture of it.
func TestClearancesByDefinition(t *testing.T) {
	random := steadily(3)
	for range 1500 {
		f := anyFit(random)
		at := map[int]int{}
		var moistures []int
		for _, g := range groupsIn(f) {
			at[g] = random.IntN(401)
			moistures = append(moistures, at[g])
		}
		least, greatest := leastAndGreatest(f, at)
		if r, e := fit.Clearance(f, moistures); r != around(least, greatest) || e != api.OK {
			t.Fatalf("%v at %v: %v, %d", f, moistures, r, e)
		}
		for _, s := range anySeasons(random) {
			least, greatest := overSeason(f, s)
			if r, e := fit.ClearanceOver(f, s); r != around(least, greatest) || e != api.OK {
				t.Fatalf("%v over %v: %v, %d", f, s, r, e)
			}
		}
	}
}

// R6: the greatest sums.
func TestGreatestClearance(t *testing.T) {
	f := api.Fit{Name: "a"}
	for i := range 20 {
		f.Outer = append(f.Outer, api.Made{Size: 600000, Rate: 2000, Group: i})
	}
	wide := api.Season{Name: "a", Low: 0, High: 400}
	if r, e := fit.ClearanceOver(f, wide); r != (api.Interval{Lo: 12000000, Hi: 18720000}) || e != api.OK {
		t.Errorf("outside: %v, %d", r, e)
	}
	f.Outer, f.Inner = nil, f.Outer
	if r, e := fit.ClearanceOver(f, wide); r != (api.Interval{Lo: -18720000, Hi: -12000000}) || e != api.OK {
		t.Errorf("inside: %v, %d", r, e)
	}
}
