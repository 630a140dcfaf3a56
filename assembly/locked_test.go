package assembly_test

import (
	"slices"
	"testing"

	"spokeshave/api"
	"spokeshave/assembly"
)

// literalLocked checks a locked cluster, by the definition.
func literalLocked(b table, count int, c api.Locked) api.Errno {
	if e := literalSet(c.Cluster, count); e != api.OK {
		return e
	}
	if len(c.Cluster) < 2 || len(c.Walks) != 26 {
		return api.ErrShape
	}
	for i, w := range allWays() {
		walk := c.Walks[i]
		if len(walk) > 200 {
			return api.ErrLarge
		}
		if !slices.Equal(c.Cluster, slices.Compact(slices.Sorted(slices.Values(walk)))) {
			return api.ErrProof
		}
		for k := range walk {
			if !b[w][walk[k]][walk[(k+1)%len(walk)]] {
				return api.ErrProof
			}
		}
	}
	return api.OK
}

// walks returns the same walk for each way.
func walks(walk ...int) [][]int {
	var l [][]int
	for range 26 {
		l = append(l, slices.Clone(walk))
	}
	return l
}

// changed returns lists of which one is another one.
func changed(l [][]int, at int, to ...int) [][]int {
	l = slices.Clone(l)
	l[at] = to
	return l
}

// P4.5: locked clusters and what is none, and which of several errors comes first.
func TestCheckLocked(t *testing.T) {
	both := walks(1, 3)
	for name, c := range map[string]struct {
		cluster []int
		walks   [][]int
		want    api.Errno
	}{
		"locked":                        {[]int{1, 3}, both, api.OK},
		"from the other part on":        {[]int{1, 3}, walks(3, 1), api.OK},
		"several times":                 {[]int{1, 3}, walks(1, 3, 1, 3, 1, 3), api.OK},
		"200 elements":                  {[]int{1, 3}, changed(both, 5, slices.Repeat([]int{1, 3}, 100)...), api.OK},
		"no such part":                  {[]int{3, 1, 4}, nil, api.ErrMissing},
		"a part below 0":                {[]int{-1, 1, 3}, both, api.ErrMissing},
		"order":                         {[]int{3, 1}, nil, api.ErrOrder},
		"a part twice":                  {[]int{1, 1, 3}, both, api.ErrOrder},
		"nothing":                       {nil, nil, api.ErrShape},
		"one part":                      {[]int{1}, both, api.ErrShape},
		"no walks":                      {[]int{1, 3}, nil, api.ErrShape},
		"25 walks":                      {[]int{1, 3}, both[1:], api.ErrShape},
		"27 walks":                      {[]int{1, 3}, append(walks(1, 3), []int{1, 3}), api.ErrShape},
		"202 elements":                  {[]int{1, 3}, changed(both, 5, slices.Repeat([]int{1, 3}, 101)...), api.ErrLarge},
		"201 wrong elements":            {[]int{1, 3}, changed(both, 0, make([]int, 201)...), api.ErrLarge},
		"a wrong one ahead of a long":   {[]int{1, 3}, changed(changed(both, 5), 6, make([]int, 201)...), api.ErrProof},
		"a long one ahead of a wrong":   {[]int{1, 3}, changed(changed(both, 6), 5, make([]int, 201)...), api.ErrLarge},
		"an empty walk":                 {[]int{1, 3}, changed(both, 25), api.ErrProof},
		"a part is left out":            {[]int{1, 3}, changed(both, 25, 1), api.ErrProof},
		"a part twice, one is left out": {[]int{1, 3}, changed(both, 25, 3, 3), api.ErrProof},
		"a part is followed by itself":  {[]int{1, 3}, changed(both, 25, 1, 3, 3), api.ErrProof},
		"the end is its beginning":      {[]int{1, 3}, changed(both, 25, 1, 3, 1), api.ErrProof},
		"a part of another cluster":     {[]int{1, 3}, changed(both, 12, 1, 0, 3), api.ErrProof},
		"a part that is none":           {[]int{1, 3}, changed(both, 12, 1, 3, 1, 4), api.ErrProof},
		"a great number":                {[]int{1, 3}, changed(both, 12, 1, 1<<62), api.ErrProof},
		"a number below 0":              {[]int{1, 3}, changed(both, 12, -1<<63, 1), api.ErrProof},
		"a part that is not locked":     {[]int{0, 1, 3}, walks(0, 1, 3), api.ErrProof},
		"not locked":                    {[]int{0, 2}, walks(0, 2), api.ErrProof},
	} {
		if e := assembly.CheckLocked(shellInRow(t), api.Locked{Cluster: c.cluster, Walks: c.walks}); e != c.want {
			t.Errorf("%s: %d, want %d", name, e, c.want)
		}
	}
}

// P4.5: random changes of locked clusters are judged as the definition says it. Some of them have walks that go through a part several times.
func TestCheckLockedLiterally(t *testing.T) {
	random := steadily(51)
	count := map[api.Errno]int{}
	long := 0
	for _, l := range samples(t, 51, 12, 12) {
		_, c, e := assembly.Plan(l)
		if e != api.ErrLocked {
			continue
		}
		b := tableOf(t, l)
		for range 30 {
			at := random.IntN(26)
			walk := slices.Clone(c.Walks[at])
			if len(walk) > len(c.Cluster) {
				long++
			}
			from := random.IntN(len(walk))
			switch random.IntN(5) {
			case 0:
				walk = slices.Concat(walk[from:], walk[:from])
			case 1:
				walk[from] = number(random, -1, len(l))
			case 2:
				walk = slices.Delete(walk, from, from+1)
			case 3:
				walk = slices.Insert(walk, from, random.IntN(len(l)))
			default:
				slices.Reverse(walk)
			}
			d := api.Locked{Cluster: c.Cluster, Walks: changed(c.Walks, at, walk...)}
			e := assembly.CheckLocked(l, d)
			if want := literalLocked(b, len(l), d); e != want {
				t.Fatalf("%v: %v: %d, want %d", l, d, e, want)
			}
			count[e]++
		}
	}
	if count[api.OK] < 50 || count[api.ErrProof] < 50 || long < 20 {
		t.Errorf("%v, %d long walks", count, long)
	}
}
