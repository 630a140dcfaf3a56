package joint_test

import (
	"math"
	"slices"
	"testing"

	"spokeshave/api"
	"spokeshave/joint"
)

// P3.3: the fifth example of the chapter.
func TestVerifyExample(t *testing.T) {
	size := [3]int{4000, 4000, 2000}
	all, _ := keeps(t, made(lap, 4000, 4000, 2000, 1000))
	a, b := all[0], all[1]
	for name, x := range map[string]struct {
		members []api.Solid
		about   [2]int
		e       api.Errno
	}{
		"both":    {[]api.Solid{a, b}, [2]int{}, api.OK},
		"alone":   {[]api.Solid{a}, [2]int{}, api.ErrGap},
		"A twice": {[]api.Solid{a, a}, [2]int{0, 1}, api.ErrClash},
	} {
		if about, e := joint.Verify(size, x.members, api.Solid{}); about != x.about || e != x.e {
			t.Errorf("%s: %v, %d", name, about, e)
		}
	}
}

// verifying is arguments of Verify and what it returns for them.
type verifying struct {
	size    [3]int
	members []api.Solid
	gaps    api.Solid
	about   [2]int
	e       api.Errno
}

func checkVerify(t *testing.T, cases map[string]verifying) {
	t.Helper()
	for name, x := range cases {
		if about, e := joint.Verify(x.size, x.members, x.gaps); about != x.about || e != x.e {
			t.Errorf("%s: %v, %d, want %v, %d", name, about, e, x.about, x.e)
		}
	}
}

// P3.3: what is wrong with the arguments, and what comes first.
func TestVerifyArguments(t *testing.T) {
	one, size, none := box(t, 0, 0, 0, 1, 1, 1), [3]int{1, 1, 1}, api.Solid{}
	members := func(n int) []api.Solid {
		l := make([]api.Solid, n)
		l[0] = one
		return l
	}
	large := api.Solid{Cells: slices.Repeat(one.Cells, 101)}
	fifty := api.Solid{Cells: slices.Repeat(one.Cells, 50)}
	most := 100000
	checkVerify(t, map[string]verifying{
		"a cube":                        {size, members(1), none, [2]int{}, api.OK},
		"twelve members":                {size, members(12), none, [2]int{}, api.OK},
		"thirteen members":              {size, members(13), none, [2]int{}, api.ErrShape},
		"no members":                    {size, nil, one, [2]int{}, api.ErrShape},
		"the largest box":               {[3]int{most, most, most}, []api.Solid{box(t, 0, 0, 0, most, most, most)}, none, [2]int{}, api.OK},
		"no length":                     {[3]int{0, 1, 1}, nil, none, [2]int{}, api.ErrRange},
		"too long":                      {[3]int{most + 1, 1, 1}, nil, none, [2]int{}, api.ErrRange},
		"too wide":                      {[3]int{1, math.MaxInt, 1}, nil, none, [2]int{}, api.ErrRange},
		"a height below 0":              {[3]int{1, 1, math.MinInt}, members(1), none, [2]int{}, api.ErrRange},
		"a count ahead of an error":     {size, slices.Repeat([]api.Solid{open()}, 13), none, [2]int{}, api.ErrShape},
		"a wrong member":                {size, []api.Solid{one, open(), large}, large, [2]int{}, api.ErrOpen},
		"a large member":                {size, []api.Solid{large, open()}, open(), [2]int{}, api.ErrLarge},
		"wrong gaps":                    {size, []api.Solid{one}, open(), [2]int{}, api.ErrOpen},
		"wrong gaps behind many cells":  {size, []api.Solid{fifty, fifty, one}, open(), [2]int{}, api.ErrOpen},
		"101 cells":                     {size, []api.Solid{fifty, fifty, one}, none, [2]int{}, api.ErrLarge},
		"101 cells with the gaps":       {size, []api.Solid{fifty, fifty}, one, [2]int{}, api.ErrLarge},
		"100 cells":                     {size, []api.Solid{fifty}, fifty, [2]int{0, 1}, api.ErrClash},
		"cells are counted ahead of it": {size, []api.Solid{box(t, 0, 0, 0, 2, 2, 2), fifty, fifty}, none, [2]int{}, api.ErrLarge},
	})
}

// P3.3: solids that leave the box, overlap, or do not fill it.
func TestVerifyPlaces(t *testing.T) {
	size, none := [3]int{6, 4, 4}, api.Solid{}
	low, high, whole := box(t, 0, 0, 0, 3, 4, 4), box(t, 3, 0, 0, 6, 4, 4), box(t, 0, 0, 0, 6, 4, 4)
	out, over := box(t, 3, 0, 0, 7, 4, 4), box(t, 2, 0, 0, 4, 4, 4)
	below, far := box(t, 0, 0, -1, 3, 4, 4), box(t, 8, 8, 8, 9, 9, 9)
	checkVerify(t, map[string]verifying{
		"two halves":                  {size, []api.Solid{low, high}, none, [2]int{}, api.OK},
		"a half and the gaps":         {size, []api.Solid{low}, high, [2]int{}, api.OK},
		"the gaps alone":              {size, []api.Solid{none}, whole, [2]int{}, api.OK},
		"empty members":               {size, []api.Solid{none, low, none, high, none}, none, [2]int{}, api.OK},
		"cells of one may overlap":    {size, []api.Solid{union(low, whole, over)}, none, [2]int{}, api.OK},
		"nothing at all":              {size, []api.Solid{none, none}, none, [2]int{}, api.ErrGap},
		"a half alone":                {size, []api.Solid{low}, none, [2]int{}, api.ErrGap},
		"a slit":                      {size, []api.Solid{low, box(t, 3, 0, 0, 6, 4, 3)}, box(t, 4, 0, 3, 6, 4, 4), [2]int{}, api.ErrGap},
		"out of the box":              {size, []api.Solid{low, out}, none, [2]int{1, 1}, api.ErrRange},
		"below the box":               {size, []api.Solid{below, high}, none, [2]int{0, 0}, api.ErrRange},
		"two out of the box":          {size, []api.Solid{low, out, below, far}, none, [2]int{1, 1}, api.ErrRange},
		"one cell out of the box":     {size, []api.Solid{whole, union(low, far)}, none, [2]int{1, 1}, api.ErrRange},
		"gaps out of the box":         {size, []api.Solid{low, high}, far, [2]int{2, 2}, api.ErrRange},
		"out of the box, and a clash": {size, []api.Solid{low, low, high}, far, [2]int{3, 3}, api.ErrRange},
		"a clash":                     {size, []api.Solid{low, over, high}, none, [2]int{0, 1}, api.ErrClash},
		"a later clash":               {size, []api.Solid{low, high, over}, none, [2]int{0, 2}, api.ErrClash},
		"the last clash":              {size, []api.Solid{none, low, high}, over, [2]int{1, 3}, api.ErrClash},
		"by the first number":         {size, []api.Solid{low, high, high, low}, none, [2]int{0, 3}, api.ErrClash},
		"by the second number":        {size, []api.Solid{whole, none, high, low}, none, [2]int{0, 2}, api.ErrClash},
		"a clash, and a gap":          {size, []api.Solid{low, low}, none, [2]int{0, 1}, api.ErrClash},
		"slanted halves of the box":   {[3]int{4, 2, 4}, slanted(t), none, [2]int{}, api.OK},
		"slanted, in a longer box":    {[3]int{5, 2, 4}, slanted(t), none, [2]int{}, api.ErrGap},
		"slanted, in a shorter box":   {[3]int{3, 2, 4}, slanted(t), none, [2]int{0, 0}, api.ErrRange},
	})
}

// slanted returns the two halves of a box 4 by 2 by 4.
func slanted(t *testing.T) []api.Solid {
	t.Helper()
	all, _ := keeps(t, made(scarf, 4, 2, 4, 0, 1, 1))
	return all
}

// P3.3: ErrLarge where solid.Covers returns it: for a member, ahead of a later one out of the box; and for the box.
func TestVerifyLarge(t *testing.T) {
	size, none := [3]int{200, 200, 10}, api.Solid{}
	// Each bar leaves two pieces outside of the box.
	var bars api.Solid
	for i := range 51 {
		bars = union(bars, box(t, -5, 3*i, 0, 205, 3*i+2, 10))
	}
	far := box(t, 300, 300, 300, 301, 301, 301)
	// Bars that cross leave a piece of the box between each four of them.
	var along, across api.Solid
	for i := range 12 {
		along = union(along, box(t, 0, 10*i+5, 0, 200, 10*i+10, 5))
		across = union(across, box(t, 10*i+5, 0, 5, 10*i+10, 200, 10))
	}
	var tops api.Solid
	for i := range 12 {
		tops = union(tops, box(t, 10*i+5, 0, 0, 10*i+10, 200, 5))
	}
	checkVerify(t, map[string]verifying{
		"a member that is out of the box":    {size, []api.Solid{bars, far}, none, [2]int{}, api.ErrLarge},
		"behind one that is out of the box":  {size, []api.Solid{far, bars}, none, [2]int{0, 0}, api.ErrRange},
		"gaps that are out of the box":       {size, []api.Solid{box(t, 0, 0, 0, 1, 1, 1)}, bars, [2]int{}, api.ErrLarge},
		"bars that cross above each other":   {size, []api.Solid{along, across}, none, [2]int{}, api.ErrGap},
		"bars that cross each other":         {size, []api.Solid{union(along, tops)}, none, [2]int{}, api.ErrLarge},
		"a clash ahead of what is too large": {size, []api.Solid{union(along, tops), box(t, 0, 5, 0, 1, 6, 1)}, none, [2]int{0, 1}, api.ErrClash},
	})
}
