package cutting_test

import (
	"math/rand/v2"
	"reflect"
	"slices"
	"testing"

	"spokeshave/api"
	"spokeshave/cutting"
)

// P8.2: the regions of some layouts.
func TestRegions(t *testing.T) {
	b := plain("b", 100, 40)
	whole := api.Rect{X2: 100, Y2: 40}
	for name, x := range map[string]struct {
		trim api.Trim
		cuts []api.Cut
		want []api.Rect
	}{
		"waste":            {api.Trim{}, []api.Cut{waste()}, []api.Rect{whole}},
		"piece":            {api.Trim{}, []api.Cut{piece(29)}, []api.Rect{whole}},
		"trimmed":          {api.Trim{Ends: 3, Sides: 4}, []api.Cut{waste()}, []api.Rect{{X1: 3, Y1: 4, X2: 97, Y2: 36}}},
		"nothing left":     {api.Trim{Ends: 50}, []api.Cut{waste()}, []api.Rect{{}}},
		"across":           {api.Trim{Kerf: 2}, []api.Cut{across(30, 1, 2), waste(), waste()}, []api.Rect{whole, {X2: 30, Y2: 40}, {X1: 32, X2: 100, Y2: 40}}},
		"High before Low":  {api.Trim{Kerf: 2}, []api.Cut{across(30, 2, 1), waste(), waste()}, []api.Rect{whole, {X1: 32, X2: 100, Y2: 40}, {X2: 30, Y2: 40}}},
		"along":            {api.Trim{Kerf: 2}, []api.Cut{along(30, 1, 2), waste(), waste()}, []api.Rect{whole, {X2: 100, Y2: 30}, {Y1: 32, X2: 100, Y2: 40}}},
		"without a kerf":   {api.Trim{}, []api.Cut{along(39, 1, 2), waste(), waste()}, []api.Rect{whole, {X2: 100, Y2: 39}, {Y1: 39, X2: 100, Y2: 40}}},
		"1 behind it":      {api.Trim{Kerf: 2}, []api.Cut{across(97, 1, 2), waste(), waste()}, []api.Rect{whole, {X2: 97, Y2: 40}, {X1: 99, X2: 100, Y2: 40}}},
		"kerf to the end":  {api.Trim{Kerf: 2}, []api.Cut{across(98, 1, 2), waste(), waste()}, []api.Rect{whole, {X2: 98, Y2: 40}, {}}},
		"kerf beyond it":   {api.Trim{Kerf: 9}, []api.Cut{along(39, 1, 2), waste(), waste()}, []api.Rect{whole, {X2: 100, Y2: 39}, {}}},
		"first, last":      {api.Trim{}, []api.Cut{across(1, 1, 2), waste(), across(98, 3, 4), waste(), waste()}, []api.Rect{whole, {X2: 1, Y2: 40}, {X1: 1, X2: 100, Y2: 40}, {X1: 1, X2: 99, Y2: 40}, {X1: 99, X2: 100, Y2: 40}}},
		"later regions":    {api.Trim{Kerf: 1, Ends: 1}, []api.Cut{across(10, 4, 1), along(5, 2, 3), piece(0), waste(), waste()}, []api.Rect{{X1: 1, X2: 99, Y2: 40}, {X1: 12, X2: 99, Y2: 40}, {X1: 12, X2: 99, Y2: 5}, {X1: 12, Y1: 6, X2: 99, Y2: 40}, {X1: 1, X2: 11, Y2: 40}}},
		"an empty waste":   {api.Trim{Kerf: 50}, []api.Cut{along(20, 1, 2), along(19, 3, 4), waste(), waste(), waste()}, []api.Rect{whole, {X2: 100, Y2: 20}, {}, {X2: 100, Y2: 19}, {}}},
		"length 2 is cut":  {api.Trim{Ends: 49}, []api.Cut{across(1, 1, 2), waste(), waste()}, []api.Rect{{X1: 49, X2: 51, Y2: 40}, {X1: 49, X2: 50, Y2: 40}, {X1: 50, X2: 51, Y2: 40}}},
		"an empty 'piece'": {api.Trim{Sides: 20}, []api.Cut{piece(3)}, []api.Rect{{}}},
	} {
		l := layout(-7, x.cuts...) // the board of the layout is not looked at
		if r, e := cutting.Regions(b, x.trim, l); !slices.Equal(r, x.want) || e != api.OK {
			t.Errorf("%s: %v, %d, want %v", name, r, e, x.want)
		}
		if e := cutting.CheckLayout(b, x.trim, l); e != api.OK {
			t.Errorf("%s: %d", name, e)
		}
	}
}

// P8.2: layouts that are none, and which of their errors comes first.
func TestLayoutErrors(t *testing.T) {
	for name, x := range map[string]struct {
		trim api.Trim
		cuts []api.Cut
		want api.Errno
	}{
		"no regions":                     {api.Trim{}, nil, api.ErrShape},
		"a leaf with At":                 {api.Trim{}, []api.Cut{{At: 1}}, api.ErrForm},
		"a leaf with High":               {api.Trim{}, []api.Cut{{High: 1, Blank: 40}}, api.ErrForm},
		"a leaf across":                  {api.Trim{}, []api.Cut{{Across: true, Blank: -1}}, api.ErrForm},
		"a cut with a blank":             {api.Trim{}, []api.Cut{{Across: true, At: 1, Low: 9, High: 9, Blank: 1}}, api.ErrForm},
		"a cut with blank -1":            {api.Trim{}, []api.Cut{{At: 1, Low: 1, High: 2, Blank: -1}, waste(), waste()}, api.ErrForm},
		"blank 30":                       {api.Trim{}, []api.Cut{piece(30)}, api.ErrRange},
		"blank -2":                       {api.Trim{}, []api.Cut{piece(-2)}, api.ErrRange},
		"Low negative":                   {api.Trim{}, []api.Cut{across(1, -1, 1), waste()}, api.ErrOrder},
		"Low its own number":             {api.Trim{}, []api.Cut{across(1, 1, 2), across(1, 1, 3), waste(), waste()}, api.ErrOrder},
		"High its own number":            {api.Trim{}, []api.Cut{across(1, 1, 2), across(1, 3, 1), waste(), waste()}, api.ErrOrder},
		"High 0":                         {api.Trim{}, []api.Cut{across(1, 1, 0), waste()}, api.ErrOrder},
		"High is Low":                    {api.Trim{}, []api.Cut{across(1, 1, 1), waste()}, api.ErrOrder},
		"High is Low, and none":          {api.Trim{}, []api.Cut{across(1, 9, 9), waste()}, api.ErrOrder},
		"no region Low":                  {api.Trim{}, []api.Cut{across(1, 3, 1), waste(), waste()}, api.ErrMissing},
		"no region High":                 {api.Trim{}, []api.Cut{across(1, 1, 3), waste(), waste()}, api.ErrMissing},
		"Low of another one":             {api.Trim{}, []api.Cut{across(1, 1, 2), along(1, 2, 3), waste(), waste()}, api.ErrExists},
		"High of another one":            {api.Trim{}, []api.Cut{across(1, 1, 2), along(1, 3, 2), waste(), waste()}, api.ErrExists},
		"no region, or another's":        {api.Trim{}, []api.Cut{across(1, 1, 2), along(1, 2, 4), waste(), waste()}, api.ErrMissing},
		"a region of none":               {api.Trim{}, []api.Cut{across(0, 1, 2), waste(), waste(), waste()}, api.ErrShape},
		"leaves alone":                   {api.Trim{}, []api.Cut{waste(), waste()}, api.ErrShape},
		"At 0":                           {api.Trim{}, []api.Cut{across(0, 1, 2), waste(), waste()}, api.ErrRange},
		"At the length":                  {api.Trim{}, []api.Cut{across(100, 1, 2), waste(), waste()}, api.ErrRange},
		"At the width":                   {api.Trim{}, []api.Cut{along(40, 1, 2), waste(), waste()}, api.ErrRange},
		"At negative":                    {api.Trim{}, []api.Cut{along(-1, 1, 2), waste(), waste()}, api.ErrRange},
		"At too great":                   {api.Trim{}, []api.Cut{along(1<<62, 1, 2), waste(), waste()}, api.ErrRange},
		"At the trimmed length":          {api.Trim{Ends: 2}, []api.Cut{across(96, 1, 2), waste(), waste()}, api.ErrRange},
		"At the rest's length":           {api.Trim{Kerf: 2}, []api.Cut{across(40, 1, 2), waste(), across(58, 3, 4), waste(), waste()}, api.ErrRange},
		"a length of 1":                  {api.Trim{}, []api.Cut{across(1, 1, 2), across(1, 3, 4), waste(), waste(), waste()}, api.ErrRange},
		"an empty region across":         {api.Trim{Kerf: 9}, []api.Cut{across(99, 1, 2), waste(), across(1, 3, 4), waste(), waste()}, api.ErrRange},
		"an empty region along":          {api.Trim{Kerf: 9}, []api.Cut{across(99, 1, 2), waste(), along(1, 3, 4), waste(), waste()}, api.ErrRange},
		"an empty board":                 {api.Trim{Ends: 50}, []api.Cut{along(1, 1, 2), waste(), waste()}, api.ErrRange},
		"form before an earlier At":      {api.Trim{}, []api.Cut{across(0, 1, 2), waste(), {At: 3}}, api.ErrForm},
		"order before a later form":      {api.Trim{}, []api.Cut{across(0, 1, 1), waste(), {At: 3}}, api.ErrOrder},
		"missing before a later order":   {api.Trim{}, []api.Cut{across(0, 1, 3), across(1, 1, 1), waste()}, api.ErrMissing},
		"order before a later missing":   {api.Trim{}, []api.Cut{across(0, 1, 2), across(1, 1, 1), across(1, 5, 6)}, api.ErrOrder},
		"exists before a later range":    {api.Trim{}, []api.Cut{across(0, 1, 2), across(1, 2, 3), piece(30), waste()}, api.ErrExists},
		"range before a region of none":  {api.Trim{}, []api.Cut{across(0, 1, 2), waste(), piece(30), waste()}, api.ErrRange},
		"first At that is out of range":  {api.Trim{}, []api.Cut{across(50, 1, 2), along(40, 3, 4), across(0, 5, 6), waste(), waste(), waste(), waste()}, api.ErrRange},
		"the numbers of Low are too big": {api.Trim{}, []api.Cut{across(1, 1<<62, 1<<62+1)}, api.ErrMissing},
	} {
		l := layout(0, x.cuts...)
		if e := cutting.CheckLayout(plain("b", 100, 40), x.trim, l); e != x.want {
			t.Errorf("%s: %d, want %d", name, e, x.want)
		}
		if r, e := cutting.Regions(plain("b", 100, 40), x.trim, l); r != nil || e != x.want {
			t.Errorf("Regions %s: %v, %d, want %d", name, r, e, x.want)
		}
	}
	for name, x := range map[string]struct {
		b    api.Board
		trim api.Trim
		want api.Errno
	}{
		"board": {plain("", 5, 5), api.Trim{Ends: -1}, api.ErrName},
		"trim":  {plain("b", 5, 5), api.Trim{Ends: -1}, api.ErrRange},
		"cuts":  {plain("b", 5, 5), api.Trim{}, api.ErrShape},
	} {
		if e := cutting.CheckLayout(x.b, x.trim, api.Layout{}); e != x.want {
			t.Errorf("%s: %d, want %d", name, e, x.want)
		}
	}
}

// slices of a board by cuts across, each one of the length 1.
func sliced(cuts int) api.Layout {
	var l api.Layout
	for n := range cuts {
		l.Cuts = append(l.Cuts, across(1, 2*n+1, 2*n+2), waste())
	}
	l.Cuts = append(l.Cuts, waste())
	for n := range cuts { // High of each cut is the next one
		l.Cuts[2*n].Low, l.Cuts[2*n].High = 2*n+1, 2*n+2
	}
	return l
}

// P8.2: how many regions there may be.
func TestManyRegions(t *testing.T) {
	b := plain("b", 1000, 40)
	if e := cutting.CheckLayout(b, api.Trim{}, sliced(199)); e != api.OK {
		t.Errorf("399 regions: %d", e)
	}
	if e := cutting.CheckLayout(b, api.Trim{}, layout(0, append(sliced(199).Cuts, waste())...)); e != api.ErrShape {
		t.Errorf("400 regions, one of them of none: %d", e)
	}
	if e := cutting.CheckLayout(b, api.Trim{}, sliced(200)); e != api.ErrLarge {
		t.Errorf("401 regions: %d", e)
	}
	if e := cutting.CheckLayout(b, api.Trim{}, layout(0, make([]api.Cut, 401)...)); e != api.ErrLarge {
		t.Errorf("401 leaves: %d", e)
	}
}

// P8.2: random layouts, right ones and such as are spoilt, by the definition.
func TestLayoutByDefinition(t *testing.T) {
	random := steadily(2)
	found := map[api.Errno]int{}
	for range 30000 {
		b, trim := anyBoard(random, 0), anyTrim(random)
		l := anyLayout(random, b, trim, 0)
		for range random.IntN(3) {
			spoilLayout(random, l)
		}
		want := layoutErrorBy(b, trim, l)
		found[want]++
		if e := cutting.CheckLayout(b, trim, l); e != want {
			t.Fatalf("%v, %v, %v: %d, want %d", b, trim, l, e, want)
		}
		r, e := cutting.Regions(b, trim, l)
		if e != want || e != api.OK && r != nil || e == api.OK && !reflect.DeepEqual(r, rectsBy(b, trim, l)) {
			t.Fatalf("%v, %v, %v: %v, %d, want %d", b, trim, l, r, e, want)
		}
	}
	for _, e := range []api.Errno{api.OK, api.ErrForm, api.ErrRange, api.ErrOrder, api.ErrMissing, api.ErrExists, api.ErrShape} {
		if found[e] < 100 {
			t.Errorf("error %d: only %d times", e, found[e])
		}
	}
}

// spoilLayout changes a region of a layout.
func spoilLayout(random *rand.Rand, l api.Layout) {
	c := &l.Cuts[random.IntN(len(l.Cuts))]
	switch random.IntN(6) {
	case 0:
		c.At += random.IntN(9) - 4
	case 1:
		c.Low += random.IntN(3) - 1
	case 2:
		c.High += random.IntN(3) - 1
	case 3:
		c.Blank = random.IntN(33) - 2
	case 4:
		c.Across = !c.Across
	case 5:
		*c = waste()
	}
}

// layoutErrorBy is the definition of the error of a layout.
func layoutErrorBy(b api.Board, t api.Trim, l api.Layout) api.Errno {
	owner := map[int]bool{}
	for n, c := range l.Cuts {
		leaf := c.Low == 0
		switch {
		case leaf && (c.Across || c.At != 0 || c.High != 0), !leaf && c.Blank != 0:
			return api.ErrForm
		case leaf && (c.Blank < -1 || c.Blank > 29):
			return api.ErrRange
		case leaf:
			continue
		case c.Low <= n || c.High <= n || c.Low == c.High:
			return api.ErrOrder
		case c.Low >= len(l.Cuts) || c.High >= len(l.Cuts):
			return api.ErrMissing
		case owner[c.Low] || owner[c.High]:
			return api.ErrExists
		}
		owner[c.Low], owner[c.High] = true, true
	}
	if len(owner) != len(l.Cuts)-1 {
		return api.ErrShape
	}
	for n, r := range rectsBy(b, t, l) {
		c := l.Cuts[n]
		length := r.Y2 - r.Y1
		if c.Across {
			length = r.X2 - r.X1
		}
		if c.Low != 0 && (c.At < 1 || c.At > length-1) {
			return api.ErrRange
		}
	}
	return api.OK
}
