package cutting_test

import (
	"math/rand/v2"
	"reflect"
	"slices"
	"testing"

	"spokeshave/api"
	"spokeshave/cutting"
)

// following returns so many leaves that follow each other.
func following(from, count int) []int {
	var l []int
	for i := range count {
		l = append(l, from+i)
	}
	return l
}

// P8.7: example 7 and other flitches.
func TestLeaves(t *testing.T) {
	flitch := []int{3, 4, 6, 7, 8}
	for name, x := range map[string]struct {
		flitch []int
		faces  int
		want   int
		e      api.Errno
	}{
		"example 7":               {flitch, 3, 2, api.OK},
		"one":                     {flitch, 1, 0, api.OK},
		"two":                     {flitch, 2, 0, api.OK},
		"four":                    {flitch, 4, 0, api.ErrNone},
		"more than there are":     {flitch, 400, 0, api.ErrNone},
		"no leaves":               {nil, 1, 0, api.ErrNone},
		"400 leaves":              {following(99601, 400), 400, 0, api.OK},
		"401 leaves":              {following(1, 401), 0, 0, api.ErrLarge},
		"no faces":                {flitch, 0, 0, api.ErrRange},
		"401 faces":               {flitch, 401, 0, api.ErrRange},
		"leaf 0":                  {[]int{0, 1}, 0, 0, api.ErrRange},
		"leaf 100001":             {[]int{1, 100001}, 1, 0, api.ErrRange},
		"leaf 100000":             {[]int{1, 100000}, 1, 0, api.OK},
		"falling":                 {[]int{2, 1}, 0, 0, api.ErrOrder},
		"twice":                   {[]int{2, 2}, 1, 0, api.ErrOrder},
		"falling, then no number": {[]int{2, 1, 0}, 1, 0, api.ErrRange},
	} {
		if n, e := cutting.Leaves(x.flitch, x.faces); n != x.want || e != x.e {
			t.Errorf("%s: %d, %d, want %d, %d", name, n, e, x.want, x.e)
		}
	}
}

// P8.7: matches.
func TestMatch(t *testing.T) {
	flitch := []int{3, 4, 6, 7, 8}
	for name, x := range map[string]struct {
		flitch      []int
		from, faces int
		want        api.Veneer
		e           api.Errno
	}{
		"example 7":          {flitch, 2, 3, api.Veneer{Leaves: []int{6, 7, 8}, Flip: []bool{false, true, false}}, api.OK},
		"one":                {flitch, 4, 1, api.Veneer{Leaves: []int{8}, Flip: []bool{false}}, api.OK},
		"not the first ones": {flitch, 3, 2, api.Veneer{Leaves: []int{7, 8}, Flip: []bool{false, true}}, api.OK},
		"not following":      {flitch, 1, 2, api.Veneer{}, api.ErrOrder},
		"not enough":         {flitch, 3, 3, api.Veneer{}, api.ErrMissing},
		"not enough at all":  {flitch, 0, 6, api.Veneer{}, api.ErrMissing},
		"place -1":           {flitch, -1, 1, api.Veneer{}, api.ErrMissing},
		"place 5":            {flitch, 5, 1, api.Veneer{}, api.ErrMissing},
		"a place far off":    {flitch, 1 << 62, 400, api.Veneer{}, api.ErrMissing},
		"the greatest place": {flitch, 1<<63 - 1, 1, api.Veneer{}, api.ErrMissing},
		"no faces":           {flitch, 9, 0, api.Veneer{}, api.ErrRange},
		"401 faces":          {flitch, 0, 401, api.Veneer{}, api.ErrRange},
		"no leaves":          {nil, 0, 1, api.Veneer{}, api.ErrMissing},
		"falling":            {[]int{2, 1}, 0, 0, api.Veneer{}, api.ErrOrder},
	} {
		if v, e := cutting.Match(x.flitch, x.from, x.faces); !reflect.DeepEqual(v, x.want) || e != x.e {
			t.Errorf("%s: %v, %d, want %v, %d", name, v, e, x.want, x.e)
		}
	}
}

// P8.7: matches that are none, and which of their errors comes first.
func TestCheckMatch(t *testing.T) {
	flitch := []int{3, 4, 6, 7, 8}
	for name, x := range map[string]struct {
		flitch []int
		v      api.Veneer
		want   api.Errno
	}{
		"example 7":            {flitch, api.Veneer{Leaves: []int{6, 7, 8}, Flip: []bool{false, true, false}}, api.OK},
		"two of them":          {flitch, api.Veneer{Leaves: []int{7, 8}, Flip: []bool{false, true}}, api.OK},
		"no leaves":            {flitch, api.Veneer{}, api.ErrShape},
		"no leaves, one turn":  {flitch, api.Veneer{Flip: []bool{false}}, api.ErrShape},
		"too few turns":        {flitch, api.Veneer{Leaves: []int{9, 7}, Flip: []bool{true}}, api.ErrShape},
		"too many turns":       {flitch, api.Veneer{Leaves: []int{6}, Flip: []bool{false, true}}, api.ErrShape},
		"no such leaf":         {flitch, api.Veneer{Leaves: []int{4, 5, 6}, Flip: []bool{false, true, false}}, api.ErrMissing},
		"no such one, falling": {flitch, api.Veneer{Leaves: []int{7, 6, 5}, Flip: []bool{true, true, false}}, api.ErrMissing},
		"behind the last":      {flitch, api.Veneer{Leaves: []int{8, 9}, Flip: []bool{false, true}}, api.ErrMissing},
		"a gap":                {flitch, api.Veneer{Leaves: []int{4, 6}, Flip: []bool{true, true}}, api.ErrOrder},
		"falling leaves":       {flitch, api.Veneer{Leaves: []int{7, 6}, Flip: []bool{false, true}}, api.ErrOrder},
		"twice":                {flitch, api.Veneer{Leaves: []int{7, 7}, Flip: []bool{false, true}}, api.ErrOrder},
		"turned first":         {flitch, api.Veneer{Leaves: []int{6, 7}, Flip: []bool{true, false}}, api.ErrForm},
		"one, turned":          {flitch, api.Veneer{Leaves: []int{6}, Flip: []bool{true}}, api.ErrForm},
		"not in turn":          {flitch, api.Veneer{Leaves: []int{6, 7, 8}, Flip: []bool{false, true, true}}, api.ErrForm},
		"no flitch":            {nil, api.Veneer{Leaves: []int{6}, Flip: []bool{false}}, api.ErrMissing},
		"a long flitch":        {following(1, 401), api.Veneer{}, api.ErrLarge},
		"a wrong flitch":       {[]int{1, 0}, api.Veneer{}, api.ErrRange},
		"a falling flitch":     {[]int{4, 3}, api.Veneer{}, api.ErrOrder},
	} {
		if e := cutting.CheckMatch(x.flitch, x.v); e != x.want {
			t.Errorf("%s: %d, want %d", name, e, x.want)
		}
	}
}

// anyFlitch returns some leaves, with gaps.
func anyFlitch(random *rand.Rand) []int {
	var l []int
	for leaf := 1; len(l) < 8; leaf++ {
		if random.IntN(4) > 0 {
			l = append(l, leaf)
		}
	}
	return l[:random.IntN(9)]
}

// P8.7, P8.11: random flitches by the definitions. A match begins where Leaves says, and is accepted.
func TestVeneerByDefinition(t *testing.T) {
	random := steadily(7)
	for range 5000 {
		flitch, faces := anyFlitch(random), 1+random.IntN(5)
		first := -1
		for from := range flitch {
			v := api.Veneer{Leaves: following(flitch[from], faces)}
			for i := range faces {
				v.Flip = append(v.Flip, i%2 != 0)
			}
			enough := from+faces <= len(flitch)
			follow := enough && slices.Equal(flitch[from:from+faces], v.Leaves)
			want := api.OK
			switch {
			case !enough:
				v, want = api.Veneer{}, api.ErrMissing
			case !follow:
				v, want = api.Veneer{}, api.ErrOrder
			case first < 0:
				first = from
			}
			found, e := cutting.Match(flitch, from, faces)
			if !reflect.DeepEqual(found, v) || e != want {
				t.Fatalf("%v, %d, %d: %v, %d, want %v, %d", flitch, from, faces, found, e, v, want)
			}
			if e == api.OK && cutting.CheckMatch(flitch, found) != api.OK {
				t.Fatalf("%v: %v is not accepted", flitch, found)
			}
		}
		n, e := cutting.Leaves(flitch, faces)
		if first < 0 && (n != 0 || e != api.ErrNone) || first >= 0 && (n != first || e != api.OK) {
			t.Fatalf("%v, %d: %d, %d, want %d", flitch, faces, n, e, first)
		}
	}
}
