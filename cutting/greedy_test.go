package cutting_test

import (
	"cmp"
	"slices"
	"strconv"
	"testing"

	"spokeshave/api"
	"spokeshave/cutting"
)

// withKerf returns a job with another kerf.
func withKerf(kerf int, j api.Job) api.Job {
	j.Trim.Kerf = kerf
	return j
}

// P8.4: the chapter's examples 1 and 2, and other plans on boards without defects.
func TestGreedy(t *testing.T) {
	ash, thin := plain("ash", 100, 40), plain("thin", 100, 40)
	ash.Species, thin.Thick = "ash", 19
	for name, x := range map[string]struct {
		j    api.Job
		want []api.Layout
		e    api.Errno
	}{
		"example 1": {exampleJob(40), nil, api.ErrNone},
		"example 2": {exampleJob(42), []api.Layout{layout(0,
			across(30, 1, 2), along(40, 3, 4), across(50, 5, 6), piece(1), waste(), along(20, 7, 8), waste(), piece(0), piece(0),
		)}, api.OK},
		"no blanks":      {job(boards(3, 100, 40)), nil, api.OK},
		"nothing":        {api.Job{}, nil, api.OK},
		"no boards":      {job(nil, wanted("a", 1, 1, 1)), nil, api.ErrNone},
		"whole boards":   {job(boards(3, 100, 40), wanted("a", 100, 40, 2)), []api.Layout{layout(0, piece(0)), layout(1, piece(0))}, api.OK},
		"only the width": {withKerf(3, job(boards(1, 100, 40), wanted("a", 100, 20, 1))), []api.Layout{layout(0, along(20, 1, 2), piece(0), waste())}, api.OK},
		"kerf to the end": {withKerf(60, job(boards(1, 100, 40), wanted("a", 50, 40, 1))), []api.Layout{
			layout(0, across(50, 1, 2), piece(0), waste()),
		}, api.OK},
		"empty rests": {withKerf(60, job(boards(2, 100, 40), wanted("a", 50, 40, 1), wanted("b", 1, 1, 1))), []api.Layout{
			layout(0, across(50, 1, 2), piece(0), waste()),
			layout(1, across(1, 1, 2), along(1, 3, 4), waste(), piece(1), waste()),
		}, api.OK},
		"by area": {job(boards(1, 100, 40), wanted("a", 30, 10, 1), wanted("b", 20, 40, 1)), []api.Layout{layout(0,
			across(20, 1, 2), piece(1), across(30, 3, 4), along(10, 5, 6), waste(), piece(0), waste(),
		)}, api.OK},
		"by length": {job(boards(1, 100, 40), wanted("a", 20, 20, 1), wanted("b", 40, 10, 1)), []api.Layout{layout(0,
			across(40, 1, 2), along(10, 3, 4), across(20, 5, 6), piece(1), waste(), along(20, 7, 8), waste(), piece(0), waste(),
		)}, api.OK},
		"by blanks": {job(boards(1, 100, 40), wanted("z", 20, 40, 1), wanted("a", 20, 40, 2)), []api.Layout{layout(0,
			across(20, 1, 2), piece(0), across(20, 3, 4), piece(1), across(20, 5, 6), piece(1), waste(),
		)}, api.OK},
		"boards of the species, thick enough": {
			job([]api.Board{ash, thin, plain("b", 100, 40)}, wanted("a", 100, 40, 1)), []api.Layout{layout(2, piece(0))}, api.OK,
		},
		"not two of them": {job([]api.Board{ash, thin, plain("b", 100, 40)}, wanted("a", 100, 40, 2)), nil, api.ErrNone},
		"boards before regions": {job(boards(2, 100, 40), wanted("a", 60, 40, 2), wanted("b", 40, 40, 1)), []api.Layout{
			layout(0, across(60, 1, 2), piece(0), piece(1)), layout(1, across(60, 1, 2), piece(0), waste()),
		}, api.OK},
	} {
		l, e := cutting.Greedy(x.j)
		if !alike(l, x.want) || e != x.e {
			t.Errorf("%s: %v, %d, want %v, %d", name, l, e, x.want, x.e)
		}
	}
}

// P8.4: example 3, and other offsets behind defects; the offset is that of the first piece, -1 if there is no place.
func TestOffsets(t *testing.T) {
	upTo := func(x int) api.Rect { return api.Rect{X2: x, Y2: 5} }
	for name, x := range map[string]struct {
		kerf, ends int
		defects    []api.Rect
		want       int
	}{
		"no defects":                    {2, 0, nil, 0},
		"example 3":                     {2, 0, []api.Rect{upTo(10)}, 10},
		"shorter than a kerf":           {20, 0, []api.Rect{upTo(10)}, 21},
		"as long as a kerf":             {10, 0, []api.Rect{upTo(10)}, 11},
		"1 more than a kerf":            {9, 0, []api.Rect{upTo(10)}, 10},
		"no kerf":                       {0, 0, []api.Rect{upTo(1)}, 1},
		"beside the piece":              {2, 0, []api.Rect{{Y1: 20, X2: 100, Y2: 40}}, 0},
		"behind the piece":              {2, 0, []api.Rect{{X1: 50, X2: 100, Y2: 40}}, 0},
		"in the last of the piece":      {2, 0, []api.Rect{{X1: 49, Y1: 19, X2: 50, Y2: 20}}, 50},
		"one behind another":            {2, 0, []api.Rect{{X1: 55, X2: 60, Y2: 5}, upTo(10)}, -1},
		"one after another":             {2, 0, []api.Rect{{X1: 20, X2: 30, Y2: 5}, upTo(10), {X1: 5, X2: 40, Y2: 5}}, 40},
		"just room":                     {2, 0, []api.Rect{upTo(50)}, 50},
		"no room":                       {2, 0, []api.Rect{upTo(51)}, -1},
		"no room behind a kerf":         {50, 0, []api.Rect{upTo(1)}, -1},
		"just room behind a kerf":       {49, 0, []api.Rect{upTo(1)}, 50},
		"in what is trimmed":            {2, 10, []api.Rect{upTo(10)}, 0},
		"partly in what is trimmed":     {2, 10, []api.Rect{upTo(14)}, 4},
		"less than a kerf behind it":    {2, 10, []api.Rect{upTo(11)}, 3},
		"none of a great kerf, trimmed": {28, 10, []api.Rect{upTo(11)}, 29},
		"a great kerf, trimmed":         {30, 10, []api.Rect{upTo(11)}, -1},
	} {
		b := with(plain("b", 100, 40), x.defects...)
		j := job([]api.Board{b}, wanted("a", 50, 20, 1))
		j.Trim = api.Trim{Kerf: x.kerf, Ends: x.ends}
		l, e := cutting.Greedy(j)
		if x.want < 0 {
			if len(l) != 0 || e != api.ErrNone {
				t.Errorf("%s: %v, %d", name, l, e)
			}
			continue
		}
		places, f := cutting.Places(j, l)
		if e != api.OK || f != api.OK || len(places) != 1 || places[0].At.X1 != x.want+x.ends || places[0].At.Y1 != 0 {
			t.Errorf("%s: %v, %d, %v, %d, want %d", name, l, e, places, f, x.want)
		}
	}
	j := withKerf(2, job([]api.Board{with(plain("b", 100, 40), upTo(10))}, wanted("a", 50, 20, 1)))
	want := []api.Layout{layout(0, across(8, 1, 2), waste(), across(50, 3, 4), along(20, 5, 6), waste(), piece(0), waste())}
	if l, e := cutting.Greedy(j); !alike(l, want) || e != api.OK {
		t.Errorf("example 3: %v, %d, want %v", l, e, want)
	}
}

// P8.4: a layout has at most 400 regions; that a piece finds no place comes first.
func TestGreedyLarge(t *testing.T) {
	slim := func(count int) api.Blank { return wanted("p"+strconv.Itoa(count), 1, 40, count) }
	l, e := cutting.Greedy(job(boards(1, 300, 40), slim(199)))
	if e != api.OK || len(l) != 1 || len(l[0].Cuts) != 399 {
		t.Errorf("399 regions: %d layouts, %d", len(l), e)
	}
	l, e = cutting.Greedy(job(boards(1, 200, 40), slim(200)))
	if e != api.OK || len(l) != 1 || len(l[0].Cuts) != 399 {
		t.Errorf("399 regions, the last one without a cut: %d layouts, %d", len(l), e)
	}
	if l, e := cutting.Greedy(job(boards(1, 300, 40), slim(200))); e != api.ErrLarge || len(l) != 0 {
		t.Errorf("401 regions: %d layouts, %d", len(l), e)
	}
	if l, e := cutting.Greedy(job(boards(1, 300, 40), slim(200), slim(101))); e != api.ErrNone || len(l) != 0 {
		t.Errorf("no place behind many regions: %d layouts, %d", len(l), e)
	}
	if l, e := cutting.Choose(job(boards(1, 300, 40), slim(200))); e != api.ErrLarge || len(l) != 0 {
		t.Errorf("Choose: %v, %d", l, e)
	}
	// The second board alone is long enough, but would have too many regions.
	if l, e := cutting.Choose(job([]api.Board{plain("a", 150, 40), plain("b", 300, 40)}, slim(200))); e != api.OK || !alike(l, []int{0, 1}) {
		t.Errorf("Choose of a short board and a long one: %v, %d", l, e)
	}
}

// P8.4: boards that are chosen.
func TestChoose(t *testing.T) {
	for name, x := range map[string]struct {
		j    api.Job
		want []int
		e    api.Errno
	}{
		"nothing":        {api.Job{}, nil, api.OK},
		"no blanks":      {job(boards(5, 100, 40)), nil, api.OK},
		"the first ones": {job(boards(5, 100, 40), wanted("a", 60, 40, 2)), []int{0, 1}, api.OK},
		"those that fit": {job([]api.Board{plain("s", 50, 40), plain("b", 60, 40), plain("t", 59, 40), plain("c", 100, 40)}, wanted("a", 60, 40, 1)), []int{1}, api.OK},
		"the one left":   {job([]api.Board{plain("s", 50, 40), plain("b", 60, 39), plain("c", 100, 40)}, wanted("a", 60, 40, 1)), []int{2}, api.OK},
		"not possible":   {job(boards(5, 100, 40), wanted("a", 60, 40, 6)), nil, api.ErrNone},
		"a wrong job":    {job(boards(101, 100, 40)), nil, api.ErrLarge},
		"all of them":    {job(boards(3, 100, 40), wanted("a", 60, 40, 3)), []int{0, 1, 2}, api.OK},
	} {
		if l, e := cutting.Choose(x.j); !alike(l, x.want) || e != x.e {
			t.Errorf("%s: %v, %d, want %v, %d", name, l, e, x.want, x.e)
		}
	}
}

// greedyBy is the definition of the greedy plan, piece by piece and offset by offset.
func greedyBy(j api.Job) ([]api.Layout, api.Errno) {
	var pieces []int
	for n, blank := range j.Blanks {
		pieces = append(pieces, slices.Repeat([]int{n}, blank.Count)...)
	}
	slices.SortStableFunc(pieces, func(n, m int) int {
		a, b := j.Blanks[n], j.Blanks[m]
		return -cmp.Or(cmp.Compare(a.Length*a.Width, b.Length*b.Width), cmp.Compare(a.Length, b.Length))
	})
	var layouts []api.Layout
	for n := range j.Stock {
		layouts = append(layouts, layout(n, waste()))
	}
	used := make([]bool, len(j.Stock))
	for _, n := range pieces {
		board, region, offset := placeBy(j, layouts, j.Blanks[n])
		if board < 0 {
			return nil, api.ErrNone
		}
		used[board] = true
		cutBy(j, &layouts[board], region, offset, n)
	}
	var plan []api.Layout
	for n, l := range layouts {
		if used[n] {
			plan = append(plan, l)
		}
		if len(l.Cuts) > api.MaxCuts {
			return nil, api.ErrLarge
		}
	}
	return plan, api.OK
}

// placeBy returns the board, the region and the offset for a piece; the board is -1 if there is none.
func placeBy(j api.Job, layouts []api.Layout, blank api.Blank) (int, int, int) {
	for n, b := range j.Stock {
		for region, r := range rectsBy(b, j.Trim, layouts[n]) {
			if layouts[n].Cuts[region] != waste() || r == (api.Rect{}) || b.Species != blank.Species || b.Thick < blank.Thick {
				continue
			}
			for offset := 0; offset <= b.Length; offset++ {
				at := api.Rect{X1: r.X1 + offset, Y1: r.Y1, X2: r.X1 + offset + blank.Length, Y2: r.Y1 + blank.Width}
				if (offset == 0 || offset > j.Trim.Kerf) && at.X2 <= r.X2 && at.Y2 <= r.Y2 && soundBy(b, at) {
					return n, region, offset
				}
			}
		}
	}
	return -1, 0, 0
}

// cutBy cuts a piece out of a region.
func cutBy(j api.Job, l *api.Layout, region, offset, number int) {
	blank, b := j.Blanks[number], j.Stock[l.Board]
	cut := func(c api.Cut) {
		c.Low, c.High = len(l.Cuts), len(l.Cuts)+1
		l.Cuts[region] = c
		l.Cuts = append(l.Cuts, waste(), waste())
	}
	if offset != 0 {
		cut(api.Cut{Across: true, At: offset - j.Trim.Kerf})
		region = len(l.Cuts) - 1
	}
	if r := rectsBy(b, j.Trim, *l)[region]; r.X2-r.X1 > blank.Length {
		cut(api.Cut{Across: true, At: blank.Length})
		region = len(l.Cuts) - 2
	}
	if r := rectsBy(b, j.Trim, *l)[region]; r.Y2-r.Y1 > blank.Width {
		cut(api.Cut{At: blank.Width})
		region = len(l.Cuts) - 2
	}
	l.Cuts[region] = piece(number)
}

// chooseBy is the definition of Choose.
func chooseBy(j api.Job) ([]int, api.Errno) {
	if _, e := greedyBy(j); e != api.OK {
		return nil, e
	}
	left := make([]int, len(j.Stock))
	for n := range left {
		left[n] = n
	}
	for n := len(j.Stock) - 1; n >= 0; n-- {
		without := slices.DeleteFunc(slices.Clone(left), func(m int) bool { return m == n })
		if _, e := greedyBy(withBoards(j, without)); e == api.OK {
			left = without
		}
	}
	return left, api.OK
}

// withBoards returns a job with some of its boards.
func withBoards(j api.Job, left []int) api.Job {
	var stock []api.Board
	for _, n := range left {
		stock = append(stock, j.Stock[n])
	}
	j.Stock = stock
	return j
}

// P8.4, P8.10: random jobs by the definitions; their plans are accepted, also with the boards that are chosen, and bounds are kept.
func TestGreedyByDefinition(t *testing.T) {
	random := steadily(4)
	done := 0
	for range 20000 {
		j := anyJob(random)
		l, e := cutting.Greedy(j)
		if want, f := greedyBy(j); !alike(l, want) || e != f {
			t.Fatalf("%v: %v, %d, want %v, %d", j, l, e, want, f)
		}
		left, e := cutting.Choose(j)
		if want, f := chooseBy(j); !alike(left, want) || e != f {
			t.Fatalf("%v: Choose: %v, %d, want %v, %d", j, left, e, want, f)
		}
		if e != api.OK {
			continue
		}
		checkGreedy(t, j)
		checkGreedy(t, withBoards(j, left))
		if len(j.Blanks) > 0 {
			done++
		}
		if n, _, e := cutting.BestBound(j); e != api.OK || n > len(left) {
			t.Fatalf("%v: bound %d, %d, but %v are enough", j, n, e, left)
		}
	}
	if done < 1000 {
		t.Errorf("only %d plans", done)
	}
}

// checkGreedy tests that the greedy plan of a job is accepted.
func checkGreedy(t *testing.T, j api.Job) {
	t.Helper()
	plan, e := cutting.Greedy(j)
	if e != api.OK {
		t.Fatalf("%v: %d", j, e)
	}
	if p, e := cutting.CheckPlan(j, plan); p != (api.Placed{}) || e != api.OK {
		t.Fatalf("%v: %v is not accepted: %v, %d", j, plan, p, e)
	}
	for i, l := range plan {
		if len(placesBy(j, plan[i:i+1])) == 0 || i > 0 && l.Board <= plan[i-1].Board {
			t.Fatalf("%v: %v has a layout without pieces, or not in the order of the boards", j, plan)
		}
	}
}

// P8.4: the greatest jobs, too, are done in a short time.
func TestGreatestJob(t *testing.T) {
	random := steadily(44)
	j := api.Job{Trim: api.Trim{Kerf: 300, Ends: 1000, Sides: 500}}
	for i := range api.MaxBoards {
		b := plain("b"+strconv.Itoa(i), 600000, 100000)
		for range api.MaxDefects {
			x, y := random.IntN(590000), random.IntN(90000)
			b.Defects = append(b.Defects, api.Rect{X1: x, Y1: y, X2: x + 1 + random.IntN(10000), Y2: y + 1 + random.IntN(10000)})
		}
		j.Stock = append(j.Stock, b)
	}
	for i := range api.MaxBlanks {
		j.Blanks = append(j.Blanks, wanted("p"+strconv.Itoa(i), 30000+1000*i, 9000+500*i, 33))
	}
	plan, e := cutting.Greedy(j)
	if e != api.OK {
		t.Fatalf("Greedy: %d", e)
	}
	if p, e := cutting.CheckPlan(j, plan); e != api.OK {
		t.Errorf("CheckPlan: %v, %d", p, e)
	}
	left, e := cutting.Choose(j)
	if n, _, f := cutting.BestBound(j); e != api.OK || f != api.OK || n > len(left) || n < 2 {
		t.Errorf("Choose: %d boards, %d; BestBound: %d, %d", len(left), e, n, f)
	}
	checkGreedy(t, withBoards(j, left))
}
