package cutting_test

import (
	"math/rand/v2"
	"slices"
	"testing"

	"spokeshave/api"
	"spokeshave/cutting"
)

func cross(kerf int, stock []int, lengths ...int) api.Cross {
	return api.Cross{Stock: stock, Lengths: lengths, Kerf: kerf}
}

// P8.6: the least number of bars, of assignments and by the sums; -1 if there is none.
func TestCrosscut(t *testing.T) {
	ten := slices.Repeat([]int{100}, 10)
	for name, x := range map[string]struct {
		c             api.Cross
		least, bySums int
	}{
		"example 6":             {cross(1, []int{100, 100}, 50, 50, 49), 2, 2},
		"without a kerf":        {cross(0, []int{100, 100}, 50, 50, 49), 2, 2},
		"kerf too great":        {cross(2, []int{100, 100}, 50, 50, 49), -1, 2},
		"no lengths":            {cross(1, []int{100, 100}), 0, 0},
		"nothing":               {api.Cross{}, 0, 0},
		"no bars":               {cross(1, nil, 1), -1, -1},
		"just as long":          {cross(0, []int{100}, 60, 40), 1, 1},
		"no kerf at the end":    {cross(10, []int{100}, 50, 40), 1, 1},
		"1 too long":            {cross(10, []int{100}, 50, 41), -1, -1},
		"too long":              {cross(0, []int{100, 100}, 101), -1, 2},
		"one, with a kerf":      {cross(10000, []int{5}, 5), 1, 1},
		"only on the second":    {cross(0, []int{10, 100}, 11), 1, 1},
		"the longest ones":      {cross(0, []int{10, 20, 30, 40}, 35, 25, 5), 2, 2},
		"one on each":           {cross(0, ten, slices.Repeat([]int{51}, 10)...), 10, 6},
		"two on each":           {cross(0, ten, slices.Repeat([]int{50}, 10)...), 5, 5},
		"not one by one":        {cross(0, []int{100, 100}, 60, 50, 50, 40), 2, 2},
		"the greatest lengths":  {cross(10000, slices.Repeat([]int{600000}, 10), slices.Repeat([]int{295000}, 10)...), 5, 5},
		"thirds do not fit all": {cross(0, []int{100, 100, 100}, 34, 34, 34, 34, 34, 34, 34), -1, 3},
	} {
		checkLeast(t, name, x.c, x.least)
		n, e := cutting.LeastBars(x.c)
		if x.bySums < 0 && (n != 0 || e != api.ErrNone) || x.bySums >= 0 && (n != x.bySums || e != api.OK) {
			t.Errorf("%s: LeastBars: %d, %d, want %d", name, n, e, x.bySums)
		}
	}
}

// checkLeast tests the assignment of Crosscut by its number of bars, -1 if there is none.
func checkLeast(t *testing.T, name string, c api.Cross, least int) {
	t.Helper()
	l, e := cutting.Crosscut(c)
	if least < 0 {
		if len(l) != 0 || e != api.ErrNone {
			t.Errorf("%s: %v: %v, %d, want none", name, c, l, e)
		}
		return
	}
	if e != api.OK || assignmentErrorBy(c, l) != api.OK || usedBy(l) != least {
		t.Errorf("%s: %v: %v, %d, want %d bars", name, c, l, e, least)
	}
	if n, e := cutting.CheckCrosscut(c, l); n != least || e != api.OK {
		t.Errorf("%s: %v: CheckCrosscut: %d, %d", name, c, n, e)
	}
}

func usedBy(l [][]int) int {
	used := 0
	for _, list := range l {
		if len(list) > 0 {
			used++
		}
	}
	return used
}

// assignmentErrorBy is the definition of the error of an assignment, for crosscuts without errors.
func assignmentErrorBy(c api.Cross, l [][]int) api.Errno {
	if len(l) != len(c.Stock) {
		return api.ErrShape
	}
	bar := map[int]int{}
	for b, list := range l {
		for i, n := range list {
			if n < 0 || n >= len(c.Lengths) {
				return api.ErrMissing
			}
			if i > 0 && n <= list[i-1] {
				return api.ErrOrder
			}
			if other, found := bar[n]; found && other < b {
				return api.ErrExists
			}
			bar[n] = b
		}
		long := 0
		for i, n := range list {
			if i > 0 {
				long += c.Kerf
			}
			long += c.Lengths[n]
		}
		if long > c.Stock[b] {
			return api.ErrLarge
		}
	}
	if len(bar) != len(c.Lengths) {
		return api.ErrGap
	}
	return api.OK
}

// P8.6: assignments that are not right, and which of their errors comes first.
func TestCheckCrosscut(t *testing.T) {
	c := cross(1, []int{100, 100}, 50, 50, 49)
	for name, x := range map[string]struct {
		l    [][]int
		used int
		want api.Errno
	}{
		"right":                        {[][]int{{0, 2}, {1}}, 2, api.OK},
		"the other one":                {[][]int{{0}, {1, 2}}, 2, api.OK},
		"no list":                      {nil, 0, api.ErrShape},
		"one list":                     {[][]int{{0, 2}}, 0, api.ErrShape},
		"three lists":                  {[][]int{{0, 2}, {1}, nil}, 0, api.ErrShape},
		"no such length":               {[][]int{{0, 3}, {1}}, 0, api.ErrMissing},
		"length -1":                    {[][]int{{-1, 0}, {1}}, 0, api.ErrMissing},
		"not ascending":                {[][]int{{2, 0}, {1}}, 0, api.ErrOrder},
		"twice in a list":              {[][]int{{0, 0}, {1}}, 0, api.ErrOrder},
		"twice":                        {[][]int{{0}, {0, 2}}, 0, api.ErrExists},
		"too long by the kerf":         {[][]int{{0, 1}, {2}}, 0, api.ErrLarge},
		"one is missing":               {[][]int{{0}, {2}}, 0, api.ErrGap},
		"all are missing":              {[][]int{nil, {}}, 0, api.ErrGap},
		"missing before order":         {[][]int{{2, -1}, nil}, 0, api.ErrMissing},
		"order before a later missing": {[][]int{{2, 1, 9}, nil}, 0, api.ErrOrder},
		"order before exists":          {[][]int{{0}, {2, 0}}, 0, api.ErrOrder},
		"exists before a later order":  {[][]int{{1}, {1, 0}}, 0, api.ErrExists},
		"exists before large":          {[][]int{{0}, {0, 1, 2}}, 0, api.ErrExists},
		"large before a later list":    {[][]int{{0, 1}, {9}}, 0, api.ErrLarge},
		"large before a gap":           {[][]int{{0, 1}, nil}, 0, api.ErrLarge},
		"order, then large":            {[][]int{{0, 1, 0}, nil}, 0, api.ErrOrder},
	} {
		if n, e := cutting.CheckCrosscut(c, x.l); n != x.used || e != x.want {
			t.Errorf("%s: %d, %d, want %d, %d", name, n, e, x.used, x.want)
		}
	}
	if n, e := cutting.CheckCrosscut(cross(0, []int{5, 5, 5, 5}, 5, 5), [][]int{nil, {1}, {}, {0}}); n != 2 || e != api.OK {
		t.Errorf("two of four bars: %d, %d", n, e)
	}
	if n, e := cutting.CheckCrosscut(api.Cross{}, nil); n != 0 || e != api.OK {
		t.Errorf("nothing: %d, %d", n, e)
	}
}

// P8.6: the error of crosscuts.
func TestCrossErrors(t *testing.T) {
	fives := func(n int) []int { return slices.Repeat([]int{5}, n) }
	for name, x := range map[string]struct {
		c    api.Cross
		want api.Errno
	}{
		"10 and 10":         {cross(0, fives(10), fives(10)...), api.OK},
		"11 bars":           {cross(-1, fives(11), 5), api.ErrLarge},
		"11 lengths":        {cross(0, []int{0}, fives(11)...), api.ErrLarge},
		"bar 0":             {cross(0, []int{5, 0}, 5), api.ErrRange},
		"bar 600001":        {cross(0, []int{600001}, 5), api.ErrRange},
		"bar 600000":        {cross(10000, []int{600000}, 600000), api.OK},
		"length 0":          {cross(0, []int{5}, 0), api.ErrRange},
		"length 600001":     {cross(0, []int{5}, 5, 600001), api.ErrRange},
		"kerf -1":           {cross(-1, []int{5}, 5), api.ErrRange},
		"kerf 10001":        {cross(10001, []int{5}, 5), api.ErrRange},
		"range before none": {cross(10001, []int{5}, 6), api.ErrRange},
	} {
		if l, e := cutting.Crosscut(x.c); e != x.want || e != api.OK && len(l) > 0 {
			t.Errorf("Crosscut, %s: %v, %d, want %d", name, l, e, x.want)
		}
		if n, e := cutting.LeastBars(x.c); e != x.want || e != api.OK && n != 0 {
			t.Errorf("LeastBars, %s: %d, %d, want %d", name, n, e, x.want)
		}
		if x.want == api.OK {
			x.want = api.ErrShape // there is no list
		}
		if n, e := cutting.CheckCrosscut(x.c, nil); n != 0 || e != x.want {
			t.Errorf("CheckCrosscut, %s: %d, %d, want %d", name, n, e, x.want)
		}
	}
}

// anyCross returns a job with few bars and lengths.
func anyCross(random *rand.Rand) api.Cross {
	c := api.Cross{Kerf: random.IntN(3)}
	bar, length := 1, 1
	if random.IntN(2) == 0 { // what is left of a bar is often of no use
		bar, length = 25, 8
	}
	for range random.IntN(6) {
		c.Stock = append(c.Stock, bar+random.IntN(10))
	}
	for range random.IntN(6) {
		c.Lengths = append(c.Lengths, length+random.IntN(12))
	}
	return c
}

// everyAssignment calls a function with each list of lists in which each length is on one bar.
func everyAssignment(c api.Cross, length int, l [][]int, use func(l [][]int)) {
	if length == len(c.Lengths) {
		use(l)
		return
	}
	for bar := range l {
		l[bar] = append(l[bar], length)
		everyAssignment(c, length+1, l, use)
		l[bar] = l[bar][:len(l[bar])-1]
	}
}

// P8.6, P8.11: random bars by the definitions: all assignments, and all sets of bars, are tried.
func TestCrosscutByDefinition(t *testing.T) {
	random := steadily(6)
	more := 0
	for range 10000 {
		c := anyCross(random)
		least := -1
		everyAssignment(c, 0, make([][]int, len(c.Stock)), func(l [][]int) {
			if used := usedBy(l); assignmentErrorBy(c, l) == api.OK && (least < 0 || used < least) {
				least = used
			}
		})
		checkLeast(t, "random", c, least)
		n, e := cutting.LeastBars(c)
		bySums := leastBarsBy(c)
		if bySums < 0 && e != api.ErrNone || bySums >= 0 && (n != bySums || e != api.OK) || least >= 0 && n > least {
			t.Fatalf("%v: LeastBars: %d, %d, want %d, at most %d", c, n, e, bySums, least)
		}
		if least > bySums {
			more++
		}
	}
	if more < 50 {
		t.Errorf("only %d times are more bars needed than their sums say", more)
	}
}

// leastBarsBy tries all sets of bars; it is -1 if all of them are too short.
func leastBarsBy(c api.Cross) int {
	asked := 0
	for _, length := range c.Lengths {
		asked += length + c.Kerf
	}
	least := -1
	for set := range 1 << len(c.Stock) {
		sum, n := 0, 0
		for bar, length := range c.Stock {
			if set>>bar&1 == 1 {
				sum += length + c.Kerf
				n++
			}
		}
		if sum >= asked && (least < 0 || n < least) {
			least = n
		}
	}
	return least
}

// P8.6: random lists by the definition.
func TestCheckCrosscutByDefinition(t *testing.T) {
	random := steadily(66)
	found := map[api.Errno]int{}
	for range 30000 {
		c := anyCross(random)
		l := make([][]int, len(c.Stock))
		for n := range c.Lengths {
			if bar := random.IntN(len(c.Stock) + 1); bar < len(c.Stock) && random.IntN(20) > 0 {
				l[bar] = append(l[bar], n)
			}
		}
		if bar := random.IntN(len(c.Stock) + 1); bar < len(c.Stock) && random.IntN(3) == 0 {
			l[bar] = append(l[bar], random.IntN(7)-1)
		}
		want := assignmentErrorBy(c, l)
		found[want]++
		n, e := cutting.CheckCrosscut(c, l)
		if e != want || e == api.OK && n != usedBy(l) || e != api.OK && n != 0 {
			t.Fatalf("%v, %v: %d, %d, want %d", c, l, n, e, want)
		}
	}
	for _, e := range []api.Errno{api.OK, api.ErrMissing, api.ErrOrder, api.ErrExists, api.ErrLarge, api.ErrGap} {
		if found[e] < 100 {
			t.Errorf("error %d: only %d times", e, found[e])
		}
	}
}
