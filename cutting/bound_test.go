package cutting_test

import (
	"math/big"
	"math/rand/v2"
	"slices"
	"strconv"
	"testing"

	"spokeshave/api"
	"spokeshave/cutting"
)

// ofKind returns a board of another species.
func ofKind(species string, b api.Board) api.Board {
	b.Species = species
	return b
}

// P8.5: area bounds.
func TestAreaBound(t *testing.T) {
	ashBlank := api.Blank{Name: "x", Species: "ash", Length: 1, Width: 1, Thick: 1, Count: 1}
	trimmed := func(ends, sides int, j api.Job) api.Job {
		j.Trim = api.Trim{Kerf: 9, Ends: ends, Sides: sides}
		return j
	}
	spotted := with(plain("d", 100, 40), api.Rect{X1: 20, Y1: 0, X2: 70, Y2: 40}, api.Rect{X1: 10, Y1: 10, X2: 50, Y2: 30})
	thin := plain("thin", 100, 40)
	thin.Thick = 1
	for name, x := range map[string]struct {
		j    api.Job
		want int
		e    api.Errno
	}{
		"example 5":              {job(boards(3, 100, 40), wanted("a", 60, 40, 3)), 2, api.OK},
		"no blanks":              {job(boards(3, 100, 40)), 0, api.OK},
		"nothing":                {api.Job{}, 0, api.OK},
		"just one":               {job(boards(3, 100, 40), wanted("a", 50, 40, 2)), 1, api.OK},
		"just more than one":     {job(boards(3, 100, 40), wanted("a", 50, 40, 2), wanted("b", 1, 1, 1)), 2, api.OK},
		"all of them":            {job(boards(3, 100, 40), wanted("a", 60, 20, 10)), 3, api.OK},
		"not enough":             {job(boards(3, 100, 40), wanted("a", 60, 20, 10), wanted("b", 1, 1, 1)), 0, api.ErrNone},
		"the greatest first":     {job([]api.Board{plain("s", 10, 10), plain("t", 20, 10), plain("u", 30, 10)}, wanted("a", 50, 10, 1)), 2, api.OK},
		"no boards":              {job(nil, wanted("a", 1, 1, 1)), 0, api.ErrNone},
		"no such species":        {job(boards(9, 100, 40), ashBlank), 0, api.ErrNone},
		"two species":            {job(append(boards(2, 100, 40), ofKind("ash", plain("c", 9, 9))), ashBlank, wanted("a", 60, 40, 3)), 3, api.OK},
		"one species not enough": {job(boards(2, 100, 40), wanted("a", 60, 40, 3), ashBlank), 0, api.ErrNone},
		"defects":                {job([]api.Board{spotted, plain("b", 100, 40)}, wanted("a", 90, 40, 1), wanted("b", 1, 500, 1)), 2, api.OK},
		"the sound area":         {job([]api.Board{spotted}, wanted("a", 45, 40, 1)), 1, api.OK},
		"more than it":           {job([]api.Board{spotted}, wanted("a", 1801, 1, 1)), 0, api.ErrNone},
		"usable":                 {trimmed(10, 5, job(boards(2, 100, 40), wanted("a", 80, 30, 1))), 1, api.OK},
		"more than usable":       {trimmed(10, 5, job(boards(2, 100, 40), wanted("a", 2401, 1, 1))), 2, api.OK},
		"sound and usable":       {trimmed(10, 0, job([]api.Board{spotted}, wanted("a", 1000, 1, 1))), 1, api.OK},
		"more than both":         {trimmed(10, 0, job([]api.Board{spotted}, wanted("a", 1001, 1, 1))), 0, api.ErrNone},
		"nothing usable":         {trimmed(50, 0, job(boards(2, 100, 40), wanted("a", 1, 1, 1))), 0, api.ErrNone},
		"the thickness is none":  {job([]api.Board{thin}, wanted("a", 1, 1, 1)), 1, api.OK},
		"a wrong job":            {job(boards(101, 1, 1)), 0, api.ErrLarge},
	} {
		if n, e := cutting.AreaBound(x.j); n != x.want || e != x.e {
			t.Errorf("%s: %d, %d, want %d, %d", name, n, e, x.want, x.e)
		}
	}
}

// P8.5: example 4 and other weights.
func TestWeight(t *testing.T) {
	for x, want := range map[[3]int]api.Frac{
		{1, 1, 2}:               {Num: 1, Den: 2},
		{1, 3, 5}:               {Num: 1, Den: 1},
		{2, 2, 5}:               {Num: 1, Den: 2},
		{0, 6, 8}:               {Num: 3, Den: 4},
		{0, 0, 8}:               {Num: 0, Den: 1},
		{3, 0, 8}:               {Num: 0, Den: 1},
		{0, 8, 8}:               {Num: 1, Den: 1},
		{20, 8, 8}:              {Num: 1, Den: 1},
		{3, 2, 8}:               {Num: 1, Den: 4},
		{3, 1, 8}:               {Num: 0, Den: 1},
		{3, 5, 8}:               {Num: 2, Den: 3},
		{3, 4, 8}:               {Num: 1, Den: 2},
		{1, 49, 100}:            {Num: 0, Den: 1},
		{1, 51, 100}:            {Num: 1, Den: 1},
		{20, 999999, 1000000}:   {Num: 1, Den: 1},
		{4, 999999, 1000000}:    {Num: 1, Den: 1},
		{0, 999999, 1000000}:    {Num: 999999, Den: 1000000},
		{19, 500000, 1000000}:   {Num: 1, Den: 2},
		{20, 500000, 1000000}:   {Num: 1, Den: 2},
		{20, 1, 1}:              {Num: 1, Den: 1},
		{5, 333333, 1000000}:    {Num: 1, Den: 5},
		{5, 1000000, 1000000}:   {Num: 1, Den: 1},
		{6, 428571, 1000000}:    {Num: 1, Den: 3},
		{6, 3 * 100000, 700000}: {Num: 3, Den: 7},
	} {
		if f, e := cutting.Weight(x[0], x[1], x[2]); f != want || e != api.OK {
			t.Errorf("%v: %v, %d, want %v", x, f, e, want)
		}
	}
	for _, x := range [][3]int{{-1, 1, 2}, {21, 1, 2}, {1, 0, 0}, {1, 1, 1000001}, {1, -1, 2}, {1, 3, 2}, {0, -1, -1}, {0, 0, -1 << 63}} {
		if f, e := cutting.Weight(x[0], x[1], x[2]); f != (api.Frac{}) || e != api.ErrRange {
			t.Errorf("%v: %v, %d", x, f, e)
		}
	}
}

// weightBy is the definition of the weight of a fraction from 0 to 1.
func weightBy(k int, x *big.Rat) *big.Rat {
	more := new(big.Rat).Mul(x, big.NewRat(int64(k+1), 1))
	if k == 0 || more.IsInt() {
		return x
	}
	floor := new(big.Int).Quo(more.Num(), more.Denom())
	return new(big.Rat).SetFrac(floor, big.NewInt(int64(k)))
}

// isFrac reports whether a fraction is in lowest terms and has a value.
func isFrac(f api.Frac, x *big.Rat) bool {
	return f.Den > 0 && x.Num().IsInt64() && x.Denom().IsInt64() && x.Num().Int64() == int64(f.Num) && x.Denom().Int64() == int64(f.Den)
}

// P8.5: weights by the definition.
func TestWeightByDefinition(t *testing.T) {
	for k := range 21 {
		for den := 1; den <= 60; den++ {
			for num := range den + 1 {
				want := weightBy(k, big.NewRat(int64(num), int64(den)))
				if f, e := cutting.Weight(k, num, den); e != api.OK || !isFrac(f, want) {
					t.Fatalf("%d, %d/%d: %v, %d, want %v", k, num, den, f, e, want)
				}
			}
		}
	}
}

// P8.5: weights and bounds of jobs.
func TestBounds(t *testing.T) {
	three := job(boards(3, 100, 40), wanted("a", 60, 40, 3))
	for k, want := range map[[2]int]int{{0, 0}: 2, {1, 0}: 3, {1, 1}: 3, {0, 1}: 2, {2, 0}: 2, {20, 20}: 2} {
		if n, e := cutting.Bound(three, k); n != want || e != api.OK {
			t.Errorf("%v: %d, %d, want %d", k, n, e, want)
		}
	}
	if n, k, e := cutting.BestBound(three); n != 3 || k != [2]int{1, 0} || e != api.OK {
		t.Errorf("BestBound: %d, %v, %d", n, k, e)
	}
	// With a kerf of 2: (48 + 2)/(98 + 2) is just a half.
	two := withKerf(2, job(boards(9, 98, 40), wanted("a", 48, 40, 2), wanted("b", 49, 40, 1)))
	if l, e := cutting.Weights(two, [2]int{1, 0}); !slices.Equal(l, []api.Frac{{Num: 1, Den: 2}, {Num: 1, Den: 1}}) || e != api.OK {
		t.Errorf("with a kerf: %v, %d", l, e)
	}
	// The greatest length and the greatest width may be those of different boards, too thin ones included; of usable rectangles.
	thin := plain("c", 20, 90)
	thin.Thick = 1
	mixed := job([]api.Board{plain("a", 100, 40), thin, ofKind("ash", plain("d", 1000, 1000))}, wanted("a", 40, 40, 1))
	mixed.Trim = api.Trim{Ends: 5, Sides: 5}
	if l, e := cutting.Weights(mixed, [2]int{0, 0}); !slices.Equal(l, []api.Frac{{Num: 2, Den: 9}}) || e != api.OK {
		t.Errorf("of different boards: %v, %d", l, e)
	}
	// Rounded up for each species by itself.
	species := job([]api.Board{plain("a", 100, 40), ofKind("ash", plain("b", 100, 40))}, wanted("a", 1, 1, 1), wanted("b", 1, 1, 3))
	species.Blanks[1].Species = "ash"
	if n, e := cutting.Bound(species, [2]int{}); n != 2 || e != api.OK {
		t.Errorf("two species: %d, %d", n, e)
	}
	if n, k, e := cutting.BestBound(species); n != 2 || k != [2]int{} || e != api.OK {
		t.Errorf("BestBound of two species: %d, %v, %d", n, k, e)
	}
	// By area 2 boards are needed, as a great part is defective; no bound by weights is greater than 1.
	spotted := job(boards(2, 100, 40), wanted("a", 50, 40, 1), wanted("b", 10, 10, 1))
	for i := range spotted.Stock {
		spotted.Stock[i] = with(spotted.Stock[i], api.Rect{X2: 48, Y2: 40})
	}
	if n, k, e := cutting.BestBound(spotted); n != 2 || k != [2]int{} || e != api.OK {
		t.Errorf("BestBound by area: %d, %v, %d", n, k, e)
	}
	if n, k, e := cutting.BestBound(api.Job{}); n != 0 || k != [2]int{} || e != api.OK {
		t.Errorf("BestBound of nothing: %d, %v, %d", n, k, e)
	}
	if n, e := cutting.Bound(job(boards(3, 1, 1)), [2]int{20, 20}); n != 0 || e != api.OK {
		t.Errorf("Bound without blanks: %d, %d", n, e)
	}
	if l, e := cutting.Weights(job(boards(3, 1, 1)), [2]int{20, 20}); len(l) != 0 || e != api.OK {
		t.Errorf("Weights without blanks: %v, %d", l, e)
	}
}

// P8.5: errors of weights and bounds.
func TestBoundErrors(t *testing.T) {
	wrong := job(boards(101, 1, 1))
	long, wide := job(boards(2, 100, 40), wanted("a", 101, 1, 1)), job(boards(2, 100, 40), wanted("a", 1, 41, 1))
	enough := job([]api.Board{plain("a", 100, 1), plain("b", 1, 40)}, wanted("a", 100, 40, 1)) // not by its area
	trimmed := job(boards(2, 100, 40), wanted("a", 1, 1, 1))
	trimmed.Trim.Sides = 20
	for name, x := range map[string]struct {
		j             api.Job
		k             [2]int
		want, best, a api.Errno // of Weights and Bound, of BestBound, of AreaBound
	}{
		"a wrong job":          {wrong, [2]int{-1, 0}, api.ErrLarge, api.ErrLarge, api.ErrLarge},
		"k below":              {long, [2]int{-1, 0}, api.ErrRange, api.ErrNone, api.OK},
		"k above":              {long, [2]int{0, 21}, api.ErrRange, api.ErrNone, api.OK},
		"too long":             {long, [2]int{20, 20}, api.ErrNone, api.ErrNone, api.OK},
		"too wide":             {wide, [2]int{}, api.ErrNone, api.ErrNone, api.OK},
		"no boards":            {job(nil, wanted("a", 1, 1, 1)), [2]int{}, api.ErrNone, api.ErrNone, api.ErrNone},
		"nothing usable":       {trimmed, [2]int{}, api.ErrNone, api.ErrNone, api.ErrNone},
		"another species":      {job([]api.Board{ofKind("ash", plain("b", 9, 9))}, wanted("a", 1, 1, 1)), [2]int{}, api.ErrNone, api.ErrNone, api.ErrNone},
		"not enough by area":   {enough, [2]int{}, api.OK, api.ErrNone, api.ErrNone},
		"the second one wide":  {job(boards(9, 100, 40), wanted("a", 1, 1, 1), wanted("b", 1, 41, 1)), [2]int{}, api.ErrNone, api.ErrNone, api.OK},
		"more than all boards": {job(boards(1, 100, 40), wanted("a", 60, 40, 2)), [2]int{1, 0}, api.OK, api.ErrNone, api.ErrNone},
	} {
		if l, e := cutting.Weights(x.j, x.k); e != x.want || e != api.OK && len(l) > 0 {
			t.Errorf("Weights, %s: %v, %d, want %d", name, l, e, x.want)
		}
		if n, e := cutting.Bound(x.j, x.k); e != x.want || e != api.OK && n != 0 {
			t.Errorf("Bound, %s: %d, %d, want %d", name, n, e, x.want)
		}
		if n, k, e := cutting.BestBound(x.j); e != x.best || n != 0 || k != [2]int{} {
			t.Errorf("BestBound, %s: %d, %v, %d, want %d", name, n, k, e, x.best)
		}
		if n, e := cutting.AreaBound(x.j); e != x.a || e != api.OK && n != 0 {
			t.Errorf("AreaBound, %s: %d, %d, want %d", name, n, e, x.a)
		}
	}
}

// areaBoundBy counts the sound squares of the boards; it is -1 if there is none.
func areaBoundBy(j api.Job) int {
	areas, asked := map[string][]int{}, map[string]int{}
	for _, b := range j.Stock {
		area, r := 0, usableBy(b, j.Trim)
		for x := r.X1; x < r.X2; x++ {
			for y := r.Y1; y < r.Y2; y++ {
				if !isDefective(b, x, y) {
					area++
				}
			}
		}
		areas[b.Species] = append(areas[b.Species], area)
	}
	for _, blank := range j.Blanks {
		asked[blank.Species] += blank.Length * blank.Width * blank.Count
	}
	bound := 0
	for species, left := range asked {
		slices.Sort(areas[species])
		slices.Reverse(areas[species])
		for _, area := range areas[species] {
			if left > 0 {
				left -= area
				bound++
			}
		}
		if left > 0 {
			return -1
		}
	}
	return bound
}

// weightsBy is the definition of the weights; it is nil if a blank is too long or too wide.
func weightsBy(j api.Job, k [2]int) []*big.Rat {
	var l []*big.Rat
	for _, blank := range j.Blanks {
		long, wide := 0, 0
		for _, b := range j.Stock {
			if r := usableBy(b, j.Trim); b.Species == blank.Species {
				long, wide = max(long, r.X2-r.X1), max(wide, r.Y2-r.Y1)
			}
		}
		if blank.Length > long || blank.Width > wide {
			return nil
		}
		kerf := j.Trim.Kerf
		along := weightBy(k[0], big.NewRat(int64(blank.Length+kerf), int64(long+kerf)))
		l = append(l, along.Mul(along, weightBy(k[1], big.NewRat(int64(blank.Width+kerf), int64(wide+kerf)))))
	}
	return l
}

// boundBy adds up the weights of all pieces, one by one.
func boundBy(j api.Job, weights []*big.Rat) int {
	sums := map[string]*big.Rat{}
	for n, blank := range j.Blanks {
		if sums[blank.Species] == nil {
			sums[blank.Species] = new(big.Rat)
		}
		for range blank.Count {
			sums[blank.Species].Add(sums[blank.Species], weights[n])
		}
	}
	bound := 0
	for _, sum := range sums {
		bound += ceil(sum)
	}
	return bound
}

// checkBounds tests the bounds of a job by the definitions.
func checkBounds(t *testing.T, j api.Job, ks [][2]int) {
	t.Helper()
	for _, k := range ks {
		want := weightsBy(j, k)
		l, e := cutting.Weights(j, k)
		n, f := cutting.Bound(j, k)
		if len(want) < len(j.Blanks) {
			if e != api.ErrNone || f != api.ErrNone {
				t.Fatalf("%v, %v: %v, %d; %d, %d, want none", j, k, l, e, n, f)
			}
			continue
		}
		if e != api.OK || !slices.EqualFunc(l, want, isFrac) {
			t.Fatalf("%v, %v: %v, %d, want %v", j, k, l, e, want)
		}
		if f != api.OK || n != boundBy(j, want) {
			t.Fatalf("%v, %v: %d, %d, want %d", j, k, n, f, boundBy(j, want))
		}
	}
}

// P8.5: random jobs by the definitions.
func TestBoundsByDefinition(t *testing.T) {
	random := steadily(5)
	done := 0
	for range 4000 {
		j := anyJob(random)
		byArea := areaBoundBy(j)
		n, e := cutting.AreaBound(j)
		if e == api.OK && n != byArea || e == api.ErrNone && byArea >= 0 || e != api.OK && e != api.ErrNone {
			t.Fatalf("%v: %d, %d, want %d", j, n, e, byArea)
		}
		checkBounds(t, j, [][2]int{{}, {random.IntN(21), random.IntN(21)}, {random.IntN(6), random.IntN(6)}})
		best, bestAt := -1, [2]int{}
		for i := range 36 {
			k := [2]int{i / 6, i % 6}
			if w := weightsBy(j, k); len(w) == len(j.Blanks) && boundBy(j, w) > best {
				best, bestAt = boundBy(j, w), k
			}
		}
		n, k, e := cutting.BestBound(j)
		if best < 0 || byArea < 0 {
			if n != 0 || k != [2]int{} || e != api.ErrNone {
				t.Fatalf("%v: %d, %v, %d, want none", j, n, k, e)
			}
			continue
		}
		if n != max(best, byArea) || k != bestAt || e != api.OK {
			t.Fatalf("%v: %d, %v, %d, want %d or %d, %v", j, n, k, e, best, byArea, bestAt)
		}
		if bestAt != [2]int{} {
			done++
		}
	}
	if done < 50 {
		t.Errorf("only %d jobs with a better bound than by areas", done)
	}
}

// P8.5: the greatest sizes, whose sums of weights have great denominators.
func TestGreatestBounds(t *testing.T) {
	random := steadily(55)
	for range 300 {
		j := api.Job{Trim: api.Trim{Kerf: random.IntN(10001)}}
		j.Stock = []api.Board{plain("a", 600000-random.IntN(9), 1), plain("b", 1, 100000-random.IntN(9))}
		for i := range api.MaxBlanks {
			j.Blanks = append(j.Blanks, wanted("p"+strconv.Itoa(i), 1+random.IntN(599000), 1+random.IntN(99000), 1+random.IntN(33)))
		}
		checkBounds(t, j, [][2]int{{}, {0, 20}, {20, 0}, {19, 20}, {random.IntN(21), random.IntN(21)}, anyK(random)})
	}
}

func anyK(random *rand.Rand) [2]int { return [2]int{random.IntN(6), random.IntN(6)} }

// P8.10: no accepted plan has fewer layouts with pieces than a bound says, for any species.
func TestBoundsProve(t *testing.T) {
	random := steadily(510)
	for range 3000 {
		j, plan := anyPlan(random)
		used := 0
		for i := range plan {
			if len(placesBy(j, plan[i:i+1])) > 0 {
				used++
			}
		}
		if n, e := cutting.AreaBound(j); n > used || e != api.OK {
			t.Fatalf("%v, %v: area bound %d, %d", j, plan, n, e)
		}
		if n, _, e := cutting.BestBound(j); n > used || e != api.OK {
			t.Fatalf("%v, %v: best bound %d, %d", j, plan, n, e)
		}
		k := [2]int{random.IntN(21), random.IntN(21)}
		if n, e := cutting.Bound(j, k); n > used || e != api.OK {
			t.Fatalf("%v, %v: bound %d with %v, %d", j, plan, n, k, e)
		}
	}
}

// P8.11: weights of what lies on one board add up to at most 1.
func TestWeightsOfBoard(t *testing.T) {
	random := steadily(511)
	full := 0
	for range 5000 {
		j, plan := anyPlan(random)
		k := [2]int{random.IntN(21), random.IntN(21)}
		weights, e := cutting.Weights(j, k)
		if e != api.OK {
			t.Fatalf("%v: %d", j, e)
		}
		for i := range plan {
			sum := new(big.Rat)
			for _, p := range placesBy(j, plan[i:i+1]) {
				sum.Add(sum, big.NewRat(int64(weights[p.Blank].Num), int64(weights[p.Blank].Den)))
			}
			switch sum.Cmp(big.NewRat(1, 1)) {
			case 1:
				t.Fatalf("%v, %v, %v: %v", j, plan[i], k, sum)
			case 0:
				full++
			}
		}
	}
	if full < 100 {
		t.Errorf("only %d boards are full", full)
	}
}
