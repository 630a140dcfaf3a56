package cutting_test

import (
	"math/rand/v2"
	"slices"
	"strconv"
	"testing"

	"spokeshave/api"
	"spokeshave/cutting"
)

// exampleJob is that of the chapter's examples, on a board of this width.
func exampleJob(width int) api.Job {
	j := job([]api.Board{plain("b", 100, width)}, wanted("a", 50, 20, 2), wanted("c", 30, 40, 1))
	j.Trim.Kerf = 2
	return j
}

// examplePlan is a plan for it, for the width 42.
func examplePlan() []api.Layout {
	return []api.Layout{layout(0,
		across(30, 1, 2),
		along(40, 7, 8),
		across(50, 3, 4), along(20, 5, 6), waste(), piece(0), piece(0),
		piece(1), waste(),
	)}
}

// P8.3: an accepted plan, its places and its areas.
func TestPlan(t *testing.T) {
	j := exampleJob(42)
	if p, e := cutting.CheckPlan(j, examplePlan()); p != (api.Placed{}) || e != api.OK {
		t.Errorf("CheckPlan: %v, %d", p, e)
	}
	want := []api.Placed{
		{Blank: 0, At: api.Rect{X1: 32, Y1: 0, X2: 82, Y2: 20}},
		{Blank: 0, At: api.Rect{X1: 32, Y1: 22, X2: 82, Y2: 42}},
		{Blank: 1, At: api.Rect{X1: 0, Y1: 0, X2: 30, Y2: 40}},
	}
	if l, e := cutting.Places(j, examplePlan()); !slices.Equal(l, want) || e != api.OK {
		t.Errorf("Places: %v, %d", l, e)
	}
	// Kerfs: 2 by 42 and 2 by 30 (the cut along at 40 reaches the side), 2 by 42, and 2 by 50. Waste: 16 by 42.
	areas := api.Areas{Pieces: 3200, Waste: 16 * 42, Kerf: 84 + 60 + 84 + 100}
	if a, e := cutting.AreasOf(j, examplePlan()); a != areas || e != api.OK {
		t.Errorf("AreasOf: %v, %d", a, e)
	}
	if l, e := cutting.Offcuts(j, examplePlan(), [2]int{16, 42}); len(l) != 1 || e != api.OK {
		t.Errorf("Offcuts: %v, %d", l, e)
	}
	if l, e := cutting.Offcuts(j, examplePlan(), [2]int{600000, 600000}); len(l) != 0 || e != api.OK {
		t.Errorf("Offcuts that are too great: %v, %d", l, e)
	}
}

// P8.3: the kerf of which only a part lies in the region, trimmed boards, boards without pieces, empty regions.
func TestAreas(t *testing.T) {
	for name, x := range map[string]struct {
		trim api.Trim
		cuts []api.Cut
		want api.Areas
	}{
		"only 1 of a kerf of 3":  {api.Trim{Kerf: 3}, []api.Cut{across(99, 1, 2), waste(), waste()}, api.Areas{Waste: 3960, Kerf: 40}},
		"only 2 of 3, along":     {api.Trim{Kerf: 3}, []api.Cut{along(38, 1, 2), waste(), waste()}, api.Areas{Waste: 3800, Kerf: 200}},
		"a kerf of 3":            {api.Trim{Kerf: 3}, []api.Cut{along(37, 1, 2), waste(), waste()}, api.Areas{Waste: 3700, Kerf: 300}},
		"trimmed":                {api.Trim{Ends: 10, Sides: 5}, []api.Cut{waste()}, api.Areas{Waste: 80 * 30, Trimmed: 4000 - 2400}},
		"all of it trimmed":      {api.Trim{Ends: 50}, []api.Cut{waste()}, api.Areas{Trimmed: 4000}},
		"a board without pieces": {api.Trim{}, []api.Cut{waste()}, api.Areas{Waste: 4000}},
	} {
		j := job(boards(2, 100, 40))
		j.Trim = x.trim
		if a, e := cutting.AreasOf(j, []api.Layout{layout(1, x.cuts...)}); a != x.want || e != api.OK {
			t.Errorf("%s: %v, %d, want %v", name, a, e, x.want)
		}
	}
	if a, e := cutting.AreasOf(job(boards(2, 100, 40)), nil); a != (api.Areas{}) || e != api.OK {
		t.Errorf("no layouts: %v, %d", a, e)
	}
	both := []api.Layout{layout(1, waste()), layout(0, waste())}
	if a, e := cutting.AreasOf(job(boards(3, 100, 40)), both); a != (api.Areas{Waste: 8000}) || e != api.OK {
		t.Errorf("two layouts: %v, %d", a, e)
	}
}

// P8.3: pieces that are not right, with their places.
func TestWrongPieces(t *testing.T) {
	ash := plain("ash", 100, 40)
	ash.Species = "ash"
	thin := plain("thin", 100, 40)
	thin.Thick = 19
	stock := []api.Board{plain("b", 100, 40), ash, thin, with(plain("d", 100, 40), api.Rect{X1: 49, Y1: 19, X2: 60, Y2: 30})}
	j := job(stock, wanted("a", 50, 20, 1))
	fine := layout(0, across(50, 1, 2), along(20, 3, 4), waste(), piece(0), waste())
	right := func(board int) api.Layout { return api.Layout{Board: board, Cuts: fine.Cuts} }
	at := api.Rect{X2: 50, Y2: 20}
	for name, x := range map[string]struct {
		plan  []api.Layout
		wrong api.Placed
		want  api.Errno
	}{
		"right":               {[]api.Layout{right(0)}, api.Placed{}, api.OK},
		"no such blank":       {[]api.Layout{layout(1, piece(1))}, api.Placed{Board: 1, Blank: 1, At: api.Rect{X2: 100, Y2: 40}}, api.ErrMissing},
		"another species":     {[]api.Layout{right(1)}, api.Placed{Board: 1, At: at}, api.ErrKind},
		"too thin":            {[]api.Layout{right(2)}, api.Placed{Board: 2, At: at}, api.ErrKind},
		"kind before shape":   {[]api.Layout{layout(1, piece(0))}, api.Placed{Board: 1, At: api.Rect{X2: 100, Y2: 40}}, api.ErrKind},
		"too long":            {[]api.Layout{layout(0, across(51, 1, 2), along(20, 3, 4), waste(), piece(0), waste())}, api.Placed{At: api.Rect{X2: 51, Y2: 20}}, api.ErrShape},
		"too narrow":          {[]api.Layout{layout(0, across(50, 1, 2), along(19, 3, 4), waste(), piece(0), waste())}, api.Placed{At: api.Rect{X2: 50, Y2: 19}}, api.ErrShape},
		"turned":              {[]api.Layout{layout(0, across(20, 1, 2), piece(0), waste())}, api.Placed{At: api.Rect{X2: 20, Y2: 40}}, api.ErrShape},
		"shape before defect": {[]api.Layout{layout(3, piece(0))}, api.Placed{Board: 3, At: api.Rect{X2: 100, Y2: 40}}, api.ErrShape},
		"a defect":            {[]api.Layout{right(3)}, api.Placed{Board: 3, At: at}, api.ErrDefect},
		"beside a defect":     {[]api.Layout{layout(3, across(50, 2, 1), waste(), along(20, 3, 4), waste(), across(49, 5, 6), waste(), waste())}, api.Placed{}, api.ErrGap},
		"first one by layout": {[]api.Layout{right(0), right(2), right(1)}, api.Placed{Board: 2, At: at}, api.ErrKind},
		"first one by region": {[]api.Layout{layout(0, across(30, 2, 1), piece(0), piece(7))}, api.Placed{At: api.Rect{X1: 30, X2: 100, Y2: 40}}, api.ErrShape},
		"wrong, not missing":  {[]api.Layout{right(0), layout(3, across(30, 2, 1), piece(0), piece(7))}, api.Placed{Board: 3, At: api.Rect{X1: 30, X2: 100, Y2: 40}}, api.ErrShape},
		"none":                {nil, api.Placed{}, api.ErrGap},
		"no pieces":           {[]api.Layout{layout(0, waste())}, api.Placed{}, api.ErrGap},
	} {
		if p, e := cutting.CheckPlan(j, x.plan); p != x.wrong || e != x.want {
			t.Errorf("%s: %v, %d, want %v, %d", name, p, e, x.wrong, x.want)
		}
	}
	touching := job([]api.Board{with(plain("b", 100, 40), api.Rect{X1: 50, Y1: 0, X2: 60, Y2: 40}, api.Rect{X1: 0, Y1: 20, X2: 50, Y2: 40})}, wanted("a", 50, 20, 1))
	if p, e := cutting.CheckPlan(touching, []api.Layout{fine}); p != (api.Placed{}) || e != api.OK {
		t.Errorf("touching defects: %v, %d", p, e)
	}
	empty := job(boards(1, 100, 40), wanted("a", 50, 20, 1))
	empty.Trim.Kerf = 9
	if p, e := cutting.CheckPlan(empty, []api.Layout{layout(0, across(99, 1, 2), waste(), piece(0))}); p != (api.Placed{}) || e != api.ErrShape {
		t.Errorf("an empty region as a piece: %v, %d", p, e)
	}
}

// P8.3: too few pieces come ahead of too many, whatever the blanks.
func TestCounts(t *testing.T) {
	for counts, want := range map[[2]int]api.Errno{
		{1, 2}: api.OK, {1, 1}: api.ErrGap, {0, 2}: api.ErrGap, {0, 0}: api.ErrGap,
		{2, 2}: api.ErrClash, {1, 3}: api.ErrClash, {2, 1}: api.ErrGap, {0, 3}: api.ErrGap,
	} {
		j := job(boards(9, 100, 40), wanted("a", 100, 40, 1), wanted("b", 100, 40, 2))
		var plan []api.Layout
		for blank, count := range counts {
			for range count {
				plan = append(plan, layout(len(plan), piece(blank)))
			}
		}
		if p, e := cutting.CheckPlan(j, plan); p != (api.Placed{}) || e != want {
			t.Errorf("%v: %v, %d, want %d", counts, p, e, want)
		}
	}
}

// P8.3: errors of the layouts of a plan.
func TestLayoutsOfPlan(t *testing.T) {
	j := job(boards(3, 100, 40), wanted("a", 100, 40, 1))
	noShape := layout(2)
	for name, x := range map[string]struct {
		plan []api.Layout
		want api.Errno
	}{
		"no such board":             {[]api.Layout{layout(3, piece(0))}, api.ErrMissing},
		"board -1":                  {[]api.Layout{layout(-1, piece(0))}, api.ErrMissing},
		"no board, and no regions":  {[]api.Layout{layout(9)}, api.ErrMissing},
		"the same board":            {[]api.Layout{layout(1, piece(0)), layout(0, waste()), layout(1, waste())}, api.ErrExists},
		"the same, and no regions":  {[]api.Layout{layout(1, piece(0)), layout(1)}, api.ErrExists},
		"no regions":                {[]api.Layout{layout(1, piece(0)), noShape}, api.ErrShape},
		"no regions, then no board": {[]api.Layout{noShape, layout(3)}, api.ErrShape},
		"no board, then no regions": {[]api.Layout{layout(3), noShape}, api.ErrMissing},
		"layouts before pieces":     {[]api.Layout{layout(0, piece(7)), layout(2, across(100, 1, 2), waste(), waste())}, api.ErrRange},
		"other boards in no order":  {[]api.Layout{layout(2, waste()), layout(0, piece(0)), layout(1, waste())}, api.OK},
	} {
		if p, e := cutting.CheckPlan(j, x.plan); p != (api.Placed{}) || e != x.want {
			t.Errorf("%s: %v, %d, want %d", name, p, e, x.want)
		}
	}
}

// P8.3: what is left, as boards.
func TestOffcuts(t *testing.T) {
	b := with(plain("b", 100, 40), api.Rect{X1: 90, Y1: 5, X2: 95, Y2: 10}, api.Rect{X1: 20, Y1: 10, X2: 70, Y2: 20}, api.Rect{X1: 52, Y1: 0, X2: 53, Y2: 1}, api.Rect{X1: 40, Y1: 39, X2: 52, Y2: 40})
	b.Cut, b.Moisture, b.Thick, b.Species = 1, 123, 45, "elm"
	j := job([]api.Board{plain("other", 10, 10), b})
	j.Trim = api.Trim{Kerf: 2, Ends: 2, Sides: 3}
	plan := []api.Layout{
		layout(1, across(48, 1, 2), along(10, 3, 4), along(20, 5, 6), waste(), waste(), waste(), waste()),
		layout(0, waste()),
	}
	offcut := func(name string, length, width int, defects ...api.Rect) api.Board {
		o := with(plain(name, length, width), defects...)
		o.Cut, o.Moisture, o.Thick, o.Species = 1, 123, 45, "elm"
		return o
	}
	other := plain("o5", 6, 4)
	want := []api.Board{
		offcut("o1", 48, 10, api.Rect{X1: 18, Y1: 7, X2: 48, Y2: 10}),
		offcut("o2", 48, 22, api.Rect{X1: 18, Y1: 0, X2: 48, Y2: 5}),
		offcut("o3", 46, 20, api.Rect{X1: 38, Y1: 2, X2: 43, Y2: 7}, api.Rect{X1: 0, Y1: 7, X2: 18, Y2: 17}),
		offcut("o4", 46, 12),
		other,
	}
	if l, e := cutting.Offcuts(j, plan, [2]int{1, 1}); !alike(l, want) || e != api.OK {
		t.Errorf("%v, %d", l, e)
	}
	wide := []api.Board{want[1], want[2]}
	wide[0].Name, wide[1].Name = "o1", "o2"
	if l, e := cutting.Offcuts(j, plan, [2]int{46, 20}); !alike(l, wide) || e != api.OK {
		t.Errorf("at least 46 by 20: %v, %d", l, e)
	}
	if l, e := cutting.Offcuts(j, plan, [2]int{47, 20}); !alike(l, wide[:1]) || e != api.OK {
		t.Errorf("at least 47 by 20: %v, %d", l, e)
	}
	for least, want := range map[[2]int]api.Errno{
		{0, 1}: api.ErrRange, {1, 0}: api.ErrRange, {600001, 1}: api.ErrRange, {1, 600001}: api.ErrRange, {600000, 1}: api.OK, {1, 600000}: api.OK,
	} {
		if l, e := cutting.Offcuts(j, plan, least); len(l) != 0 || e != want {
			t.Errorf("%v: %v, %d, want %d", least, l, e, want)
		}
	}
	if l, e := cutting.Offcuts(j, []api.Layout{layout(0)}, [2]int{}); len(l) != 0 || e != api.ErrShape {
		t.Errorf("wrong plan: %v, %d", l, e)
	}
}

// P8.3: at most 100 offcuts.
func TestManyOffcuts(t *testing.T) {
	j := job([]api.Board{plain("b", 1000, 5)})
	for cuts, want := range map[int]api.Errno{99: api.OK, 100: api.ErrLarge} {
		l, e := cutting.Offcuts(j, []api.Layout{sliced(cuts)}, [2]int{1, 5})
		if e != want || e == api.OK && (len(l) != 100 || l[99].Name != "o100") || e != api.OK && len(l) > 0 {
			t.Errorf("%d cuts: %d boards, %d", cuts, len(l), e)
		}
		if l, e := cutting.Offcuts(j, []api.Layout{sliced(cuts)}, [2]int{2, 5}); len(l) != 1 || e != api.OK {
			t.Errorf("%d cuts, but only one long rest: %d boards, %d", cuts, len(l), e)
		}
	}
}

// P8.3, P8.9: random plans by the definitions: their places, their areas square by square, and their offcuts.
func TestPlanByDefinition(t *testing.T) {
	random := steadily(3)
	pieces, offcuts := 0, 0
	for range 3000 {
		j, plan := anyPlan(random)
		if p, e := cutting.CheckPlan(j, plan); p != (api.Placed{}) || e != api.OK {
			t.Fatalf("%v, %v: %v, %d", j, plan, p, e)
		}
		places, e := cutting.Places(j, plan)
		if want := placesBy(j, plan); !alike(places, want) || e != api.OK {
			t.Fatalf("%v, %v: %v, %d, want %v", j, plan, places, e, want)
		}
		checkSoundWood(t, j, places)
		areas, e := cutting.AreasOf(j, plan)
		if want := areasBy(j, plan); areas != want || e != api.OK {
			t.Fatalf("%v, %v: %v, %d, want %v", j, plan, areas, e, want)
		}
		least := [2]int{1 + random.IntN(6), 1 + random.IntN(6)}
		left, e := cutting.Offcuts(j, plan, least)
		if want := offcutsBy(j, plan, least); !alike(left, want) || e != api.OK {
			t.Fatalf("%v, %v, %v: %v, %d, want %v", j, plan, least, left, e, want)
		}
		if e := cutting.CheckJob(job(left)); e != api.OK {
			t.Fatalf("%v: not right as boards: %d", left, e)
		}
		pieces += len(places)
		offcuts += len(left)
	}
	if pieces < 5000 || offcuts < 1000 {
		t.Errorf("only %d pieces and %d offcuts", pieces, offcuts)
	}
}

// P8.9: places of an accepted plan overlap nowhere, lie in the usable rectangle, are sound, and a kerf apart in one of the directions.
func checkSoundWood(t *testing.T, j api.Job, places []api.Placed) {
	t.Helper()
	for i, p := range places {
		b, kerf := j.Stock[p.Board], j.Trim.Kerf
		whole := usableBy(b, j.Trim)
		if p.At.X1 < whole.X1 || p.At.X2 > whole.X2 || p.At.Y1 < whole.Y1 || p.At.Y2 > whole.Y2 || !soundBy(b, p.At) {
			t.Fatalf("%v: %v is outside, or not sound", j, p)
		}
		for _, q := range places[:i] {
			far := q.At.X1-p.At.X2 >= kerf || p.At.X1-q.At.X2 >= kerf || q.At.Y1-p.At.Y2 >= kerf || p.At.Y1-q.At.Y2 >= kerf
			if p.Board == q.Board && (spans(p.At, q.At) || !far) {
				t.Fatalf("%v: %v and %v are not a kerf apart", j, p, q)
			}
		}
	}
}

func placesBy(j api.Job, plan []api.Layout) []api.Placed {
	var l []api.Placed
	for _, x := range plan {
		for n, r := range rectsBy(j.Stock[x.Board], j.Trim, x) {
			if c := x.Cuts[n]; c.Low == 0 && c.Blank != -1 {
				l = append(l, api.Placed{Board: x.Board, Blank: c.Blank, At: r})
			}
		}
	}
	return l
}

// areasBy looks at each square of each board.
func areasBy(j api.Job, plan []api.Layout) api.Areas {
	var a api.Areas
	for _, l := range plan {
		b := j.Stock[l.Board]
		rects := rectsBy(b, j.Trim, l)
		for x := range b.Length {
			for y := range b.Width {
				leaf := -1
				for n, c := range l.Cuts {
					if c.Low == 0 && isIn(rects[n], x, y) {
						leaf = n
					}
				}
				switch {
				case !isIn(rects[0], x, y):
					a.Trimmed++
				case leaf < 0:
					a.Kerf++
				case l.Cuts[leaf].Blank < 0:
					a.Waste++
				default:
					a.Pieces++
				}
			}
		}
	}
	return a
}

func offcutsBy(j api.Job, plan []api.Layout, least [2]int) []api.Board {
	var l []api.Board
	for _, x := range plan {
		b := j.Stock[x.Board]
		for n, r := range rectsBy(b, j.Trim, x) {
			if c := x.Cuts[n]; c.Low != 0 || c.Blank != -1 || r.X2-r.X1 < least[0] || r.Y2-r.Y1 < least[1] {
				continue
			}
			o := api.Board{Name: "o" + strconv.Itoa(len(l)+1), Species: b.Species, Length: r.X2 - r.X1, Width: r.Y2 - r.Y1, Thick: b.Thick, Cut: b.Cut, Moisture: b.Moisture}
			for _, d := range b.Defects {
				if spans(d, r) {
					o.Defects = append(o.Defects, api.Rect{X1: max(d.X1-r.X1, 0), Y1: max(d.Y1-r.Y1, 0), X2: min(d.X2-r.X1, o.Length), Y2: min(d.Y2-r.Y1, o.Width)})
				}
			}
			l = append(l, o)
		}
	}
	return l
}

// P8.3: random plans that are spoilt, by the definition.
func TestWrongPlansByDefinition(t *testing.T) {
	random := steadily(33)
	found := map[api.Errno]int{}
	for range 20000 {
		j, plan := anyPlan(random)
		spoilPlan(random, &j, plan)
		wrong, want := planErrorBy(j, plan)
		found[want]++
		if p, e := cutting.CheckPlan(j, plan); p != wrong || e != want {
			t.Fatalf("%v, %v: %v, %d, want %v, %d", j, plan, p, e, wrong, want)
		}
		if l, e := cutting.Places(j, plan); e != want || e != api.OK && len(l) > 0 {
			t.Fatalf("Places of %v, %v: %v, %d, want %d", j, plan, l, e, want)
		}
		if a, e := cutting.AreasOf(j, plan); e != want || e != api.OK && a != (api.Areas{}) {
			t.Fatalf("AreasOf %v, %v: %v, %d, want %d", j, plan, a, e, want)
		}
		if l, e := cutting.Offcuts(j, plan, [2]int{1, 1}); e != want || e != api.OK && len(l) > 0 {
			t.Fatalf("Offcuts of %v, %v: %v, %d, want %d", j, plan, l, e, want)
		}
	}
	for _, e := range []api.Errno{api.OK, api.ErrMissing, api.ErrExists, api.ErrKind, api.ErrShape, api.ErrDefect, api.ErrGap, api.ErrClash} {
		if found[e] < 50 {
			t.Errorf("error %d: only %d times", e, found[e])
		}
	}
}

// spoilPlan changes something of a job or its plan.
func spoilPlan(random *rand.Rand, j *api.Job, plan []api.Layout) {
	if len(plan) == 0 || len(j.Blanks) == 0 {
		return
	}
	l := &plan[random.IntN(len(plan))]
	blank := &j.Blanks[random.IntN(len(j.Blanks))]
	board := &j.Stock[random.IntN(len(j.Stock))]
	switch random.IntN(9) {
	case 0:
		l.Board = random.IntN(len(j.Stock)+2) - 1
	case 1:
		j.Blanks = j.Blanks[:len(j.Blanks)-1]
	case 2:
		board.Species = "elm"
	case 3:
		blank.Thick++
	case 4:
		blank.Length++
	case 5:
		*board = with(*board, api.Rect{X1: board.Length / 2, Y1: 0, X2: board.Length/2 + 1, Y2: board.Width})
	case 6:
		blank.Count = max(1, blank.Count+random.IntN(3)-1)
	case 7:
		c := &l.Cuts[random.IntN(len(l.Cuts))]
		if c.Low == 0 {
			c.Blank = random.IntN(3) - 1
		}
	case 8:
		j.Trim.Kerf++
	}
}

// planErrorBy is the definition of the error of a plan for a job that has none.
func planErrorBy(j api.Job, plan []api.Layout) (api.Placed, api.Errno) {
	boards := map[int]bool{}
	for _, l := range plan {
		if l.Board < 0 || l.Board >= len(j.Stock) {
			return api.Placed{}, api.ErrMissing
		}
		if boards[l.Board] {
			return api.Placed{}, api.ErrExists
		}
		boards[l.Board] = true
		if e := cutting.CheckLayout(j.Stock[l.Board], j.Trim, l); e != api.OK {
			return api.Placed{}, e
		}
	}
	counts := map[int]int{}
	for _, p := range placesBy(j, plan) {
		if p.Blank >= len(j.Blanks) {
			return p, api.ErrMissing
		}
		b, blank := j.Stock[p.Board], j.Blanks[p.Blank]
		switch {
		case b.Species != blank.Species || b.Thick < blank.Thick:
			return p, api.ErrKind
		case p.At.X2-p.At.X1 != blank.Length || p.At.Y2-p.At.Y1 != blank.Width:
			return p, api.ErrShape
		case !soundBy(b, p.At):
			return p, api.ErrDefect
		}
		counts[p.Blank]++
	}
	e := api.OK
	for n, blank := range j.Blanks {
		switch {
		case counts[n] < blank.Count:
			return api.Placed{}, api.ErrGap
		case counts[n] > blank.Count:
			e = api.ErrClash
		}
	}
	return api.Placed{}, e
}
