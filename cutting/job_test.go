package cutting_test

import (
	"strconv"
	"testing"

	"spokeshave/api"
	"spokeshave/cutting"
)

// P8.1: names of blanks, and those of their species.
func TestBlankNames(t *testing.T) {
	for name, is := range names() {
		want := api.ErrName
		if is {
			want = api.OK
		}
		blank := wanted("other", 1, 1, 1)
		blank.Name = name
		if e := cutting.CheckBlanks([]api.Blank{wanted("other", 1, 1, 1), blank}); e != want {
			t.Errorf("%q: %d, want %d", name, e, want)
		}
		blank = wanted("other", 1, 1, 1)
		blank.Species = name
		if e := cutting.CheckBlanks([]api.Blank{blank}); e != want {
			t.Errorf("species %q: %d, want %d", name, e, want)
		}
	}
}

// P8.1: the ranges of blanks.
func TestBlankRanges(t *testing.T) {
	for name, f := range map[string]struct {
		of   func(b *api.Blank) *int
		high int
	}{
		"Length": {func(b *api.Blank) *int { return &b.Length }, 600000},
		"Width":  {func(b *api.Blank) *int { return &b.Width }, 600000},
		"Thick":  {func(b *api.Blank) *int { return &b.Thick }, 600000},
		"Count":  {func(b *api.Blank) *int { return &b.Count }, 200},
	} {
		for n, want := range map[int]api.Errno{1: api.OK, f.high: api.OK, 0: api.ErrRange, f.high + 1: api.ErrRange, -1: api.ErrRange} {
			l := []api.Blank{wanted("a", 5, 5, 5), wanted("b", 5, 5, 5)}
			*f.of(&l[1]) = n
			if e := cutting.CheckBlanks(l); e != want {
				t.Errorf("%s %d: %d, want %d", name, n, e, want)
			}
		}
	}
}

// P8.1: how many blanks there may be, and whose error comes first.
func TestBlanks(t *testing.T) {
	many := func(count int) []api.Blank {
		var l []api.Blank
		for i := range count {
			l = append(l, wanted("p"+strconv.Itoa(i), 1, 1, 1))
		}
		return l
	}
	nameless, wide, noSpecies := wanted("", 1, 1, 1), wanted("wide", 1, 600001, 1), wanted("p0", 1, 1, 1)
	noSpecies.Species = "no species"
	again := wanted("p0", 0, 1, 1)
	for name, x := range map[string]struct {
		l    []api.Blank
		want api.Errno
	}{
		"none":                {nil, api.OK},
		"30":                  {many(30), api.OK},
		"31":                  {many(31), api.ErrLarge},
		"31 and a wrong one":  {append(many(30), nameless), api.ErrLarge},
		"the same name":       {append(many(3), wanted("p2", 1, 1, 1)), api.ErrExists},
		"name, then range":    {append(many(3), nameless, wide), api.ErrName},
		"range, then name":    {append(many(3), wide, nameless), api.ErrRange},
		"a name and a range":  {append(many(3), api.Blank{Species: "oak"}), api.ErrName},
		"exists and range":    {append(many(1), again), api.ErrExists},
		"exists and a name":   {append(many(1), noSpecies), api.ErrName},
		"range, later exists": {append(many(1), wide, wanted("p0", 1, 1, 1)), api.ErrRange},
		"names that differ":   {[]api.Blank{wanted("a", 1, 1, 1), wanted("A", 1, 1, 1)}, api.OK},
	} {
		if e := cutting.CheckBlanks(x.l); e != x.want {
			t.Errorf("%s: %d, want %d", name, e, x.want)
		}
	}
}

// P8.1: trims.
func TestTrim(t *testing.T) {
	for trim, want := range map[api.Trim]api.Errno{
		{}:                                       api.OK,
		{Kerf: 10000, Ends: 10000, Sides: 10000}: api.OK,
		{Kerf: 10001}:                            api.ErrRange,
		{Ends: 10001}:                            api.ErrRange,
		{Sides: 10001}:                           api.ErrRange,
		{Kerf: -1}:                               api.ErrRange,
		{Ends: -1}:                               api.ErrRange,
		{Sides: -1}:                              api.ErrRange,
	} {
		if e := cutting.CheckTrim(trim); e != want {
			t.Errorf("%v: %d, want %d", trim, e, want)
		}
	}
}

// P8.1: jobs, and which of their errors comes first.
func TestJob(t *testing.T) {
	full := func(counts ...int) []api.Blank {
		var l []api.Blank
		for i, count := range counts {
			l = append(l, wanted("p"+strconv.Itoa(i), 1, 1, count))
		}
		return l
	}
	wrongTrim := api.Trim{Kerf: -1}
	nameless := plain("", 5, 5)
	for name, x := range map[string]struct {
		j    api.Job
		want api.Errno
	}{
		"empty":                   {api.Job{}, api.OK},
		"100 boards":              {api.Job{Stock: boards(100, 5, 5)}, api.OK},
		"101 boards":              {api.Job{Stock: boards(101, 5, 5)}, api.ErrLarge},
		"101 boards, one wrong":   {api.Job{Stock: append(boards(100, 5, 5), nameless)}, api.ErrLarge},
		"board without a name":    {api.Job{Stock: []api.Board{nameless}}, api.ErrName},
		"board too wide":          {api.Job{Stock: []api.Board{plain("b", 5, 100001)}}, api.ErrRange},
		"defect that is none":     {api.Job{Stock: []api.Board{with(plain("b", 5, 5), api.Rect{})}}, api.ErrForm},
		"defect outside":          {api.Job{Stock: []api.Board{with(plain("b", 5, 5), api.Rect{X2: 6, Y2: 1})}}, api.ErrRange},
		"61 defects":              {api.Job{Stock: []api.Board{with(plain("b", 5, 5), make([]api.Rect, 61)...)}}, api.ErrLarge},
		"the same board":          {api.Job{Stock: append(boards(2, 5, 5), plain("b0", 6, 6))}, api.ErrExists},
		"the same, but wrong":     {api.Job{Stock: append(boards(2, 5, 5), plain("b0", 0, 6))}, api.ErrRange},
		"the same, then wrong":    {api.Job{Stock: append(boards(2, 5, 5), plain("b0", 6, 6), nameless)}, api.ErrExists},
		"board and blank":         {api.Job{Stock: []api.Board{nameless}, Blanks: make([]api.Blank, 31)}, api.ErrName},
		"blank":                   {api.Job{Blanks: make([]api.Blank, 31), Trim: wrongTrim}, api.ErrLarge},
		"name of a blank":         {api.Job{Blanks: append(full(200, 200, 200, 200, 200, 1), api.Blank{}), Trim: wrongTrim}, api.ErrName},
		"1000 pieces":             {api.Job{Blanks: full(200, 200, 200, 200, 199, 1)}, api.OK},
		"1001 pieces":             {api.Job{Blanks: full(200, 200, 200, 200, 200, 1), Trim: wrongTrim}, api.ErrLarge},
		"trim":                    {api.Job{Stock: boards(2, 5, 5), Blanks: full(3), Trim: wrongTrim}, api.ErrRange},
		"species without a board": {api.Job{Blanks: full(3)}, api.OK},
		"board named as a blank":  {api.Job{Stock: []api.Board{plain("p0", 5, 5)}, Blanks: full(3)}, api.OK},
	} {
		if e := cutting.CheckJob(x.j); e != x.want {
			t.Errorf("%s: %d, want %d", name, e, x.want)
		}
	}
}

// P8.1: the usable rectangle.
func TestUsable(t *testing.T) {
	b := with(plain("b", 100, 40), api.Rect{X2: 100, Y2: 40})
	for trim, want := range map[api.Trim]api.Rect{
		{}:                     {X2: 100, Y2: 40},
		{Kerf: 9}:              {X2: 100, Y2: 40},
		{Ends: 5}:              {X1: 5, X2: 95, Y2: 40},
		{Sides: 7}:             {Y1: 7, X2: 100, Y2: 33},
		{Ends: 49, Sides: 19}:  {X1: 49, Y1: 19, X2: 51, Y2: 21},
		{Ends: 50, Sides: 19}:  {},
		{Ends: 49, Sides: 20}:  {},
		{Ends: 90}:             {},
		{Sides: 10000}:         {},
		{Ends: 70, Sides: 100}: {},
	} {
		if r, e := cutting.Usable(b, trim); r != want || e != api.OK {
			t.Errorf("%v: %v, %d, want %v", trim, r, e, want)
		}
	}
	for trim, want := range map[api.Trim]api.Rect{{Ends: 2}: {X1: 2, X2: 3, Y2: 5}, {Sides: 2}: {Y1: 2, X2: 5, Y2: 3}} {
		if r, e := cutting.Usable(plain("b", 5, 5), trim); r != want || e != api.OK {
			t.Errorf("%v: %v, %d, want %v", trim, r, e, want)
		}
	}
	if r, e := cutting.Usable(plain("", 5, 5), api.Trim{Kerf: -1}); r != (api.Rect{}) || e != api.ErrName {
		t.Errorf("board and trim: %v, %d", r, e)
	}
	if r, e := cutting.Usable(plain("b", 5, 5), api.Trim{Kerf: -1}); r != (api.Rect{}) || e != api.ErrRange {
		t.Errorf("trim: %v, %d", r, e)
	}
}
