package fit_test

import (
	"testing"

	"spokeshave/api"
	"spokeshave/fit"
)

// P6.5: the sizes of an inner piece.
func TestAdjustExamples(t *testing.T) {
	at := func(moisture int) []api.Season {
		return []api.Season{{Name: "a", Low: moisture, High: moisture}}
	}
	tight := drawer()
	tight.Most = 18
	still := api.Fit{Name: "a", Outer: []api.Made{{Size: 1000}}, Inner: []api.Made{{Size: 300}, {Size: 5, Minus: 2, Plus: 3}}, Least: 10, Most: 90}
	for name, x := range map[string]struct {
		f     api.Fit
		l     []api.Season
		inner int
		want  api.Interval
		error api.Errno
	}{
		"no seasons":           {drawer(), nil, 0, api.Interval{Lo: 10, Hi: 599990}, api.OK},
		"as made":              {drawer(), at(80), 0, api.Interval{Lo: 49510, Hi: 49990}, api.OK},
		"at 100":               {drawer(), at(100), 0, api.Interval{Lo: 49215, Hi: 49691}, api.OK}, // 49205 * 1.006 = 49500.23, 49701 * 1.006 = 49999.206
		"in a year":            {drawer(), []api.Season{year()}, 0, api.Interval{Lo: 49809, Hi: 49397}, api.ErrNone},
		"too tight":            {tight, at(80), 0, api.Interval{}, api.ErrNone},
		"the second one":       {still, []api.Season{year()}, 1, api.Interval{Lo: 612, Hi: 687}, api.OK},
		"the first one":        {still, []api.Season{year()}, 0, api.Interval{Lo: 907, Hi: 982}, api.OK},
		"from the least":       {api.Fit{Name: "a", Inner: []api.Made{{Size: 9, Minus: 4, Plus: 1}}, Least: -10, Most: 0}, at(0), 0, api.Interval{Lo: 4, Hi: 9}, api.OK},
		"to the greatest":      {api.Fit{Name: "a", Outer: []api.Made{{Size: 600000}}, Inner: []api.Made{{Size: 9, Minus: 4, Plus: 1}}, Least: 0, Most: 7}, at(0), 0, api.Interval{Lo: 599997, Hi: 599999}, api.OK},
		"one size":             {api.Fit{Name: "a", Outer: []api.Made{{Size: 77}}, Inner: []api.Made{{}}}, at(0), 0, api.Interval{Lo: 77, Hi: 77}, api.OK},
		"size 0":               {api.Fit{Name: "a", Inner: []api.Made{{Size: 50}}}, at(0), 0, api.Interval{}, api.OK},
		"below the least":      {api.Fit{Name: "a", Inner: []api.Made{{Size: 50, Minus: 1}}}, at(0), 0, api.Interval{}, api.ErrNone},
		"above the greatest":   {api.Fit{Name: "a", Outer: []api.Made{{Size: 600000}, {Size: 1}}, Inner: []api.Made{{}}}, at(0), 0, api.Interval{}, api.ErrNone},
		"less than all":        {api.Fit{Name: "a", Outer: []api.Made{{Size: 9}}, Inner: []api.Made{{}}, Least: 10, Most: 10}, at(0), 0, api.Interval{}, api.ErrNone},
		"no such piece":        {still, at(80), 2, api.Interval{}, api.ErrMissing},
		"a piece below all":    {still, at(80), -1, api.Interval{}, api.ErrMissing},
		"no piece at all":      {api.Fit{Name: "a", Least: 5, Most: 5}, at(80), 0, api.Interval{}, api.ErrMissing},
		"an outer piece alone": {api.Fit{Name: "a", Outer: []api.Made{{}}}, nil, 0, api.Interval{}, api.ErrMissing},
	} {
		if x.error != api.OK {
			x.want = api.Interval{}
		}
		if r, e := fit.Adjust(x.f, x.l, x.inner); r != x.want || e != x.error {
			t.Errorf("%s: %v, %d, want %v, %d", name, r, e, x.want, x.error)
		}
	}
}

// P6.5: the sizes by trying all of them.
func TestAdjustByDefinition(t *testing.T) {
	random := steadily(55)
	found, none := 0, 0
	for range 400 {
		f, l := anyFit(random), anySeasons(random)
		if len(f.Inner) == 0 || len(l) == 0 {
			continue
		}
		inner := random.IntN(len(f.Inner))
		piece := f.Inner[inner]
		right := func(size int) bool {
			changed := f
			changed.Inner = append([]api.Made{}, f.Inner...)
			changed.Inner[inner].Size = size
			is, _ := holds(t, changed, l...)
			return is
		}
		// The other pieces leave no room for more than this.
		most := 2000
		for _, p := range append(f.Outer, f.Inner...) {
			most += p.Size
		}
		want, error := api.Interval{Lo: 1, Hi: 0}, api.ErrNone
		for size := piece.Minus; size <= most*2; size++ {
			if !right(size) {
				continue
			}
			if error != api.OK {
				want.Lo, error = size, api.OK
			}
			if want.Hi = size; want.Lo < size && !right(size-1) {
				t.Fatalf("%v, %v, %d: apart at %d", f, l, inner, size)
			}
		}
		if error != api.OK {
			want = api.Interval{}
			none++
		} else {
			found++
		}
		if r, e := fit.Adjust(f, l, inner); r != want || e != error {
			t.Fatalf("%v, %v, %d: %v, %d, want %v, %d", f, l, inner, r, e, want, error)
		}
	}
	if found < 50 || none < 20 {
		t.Errorf("too few to tell: %d with sizes, %d without", found, none)
	}
}
