package assembly_test

import (
	"slices"
	"testing"

	"spokeshave/api"
	"spokeshave/assembly"
)

// P4.3: sets that move out of all parts.
func TestMoves(t *testing.T) {
	l := row(t, 3)
	for _, x := range []struct {
		out  []int
		w    api.Way
		want bool
	}{
		{nil, api.Way{X: 1}, true},
		{[]int{0, 1, 2}, api.Way{X: 1}, true},
		{[]int{2}, api.Way{X: 1}, true},
		{[]int{1, 2}, api.Way{X: 1}, true},
		{[]int{0, 2}, api.Way{X: 1}, false},
		{[]int{0}, api.Way{X: 1}, false},
		{[]int{0}, api.Way{X: -1}, true},
		{[]int{1}, api.Way{Y: 1}, true},
	} {
		if is, e := assembly.Moves(l, x.out, x.w); is != x.want || e != api.OK {
			t.Errorf("%v: %t, %d", x, is, e)
		}
	}
	if is, e := assembly.Moves(nil, nil, api.Way{X: 1}); !is || e != api.OK {
		t.Errorf("no parts: %t, %d", is, e)
	}
	random := steadily(31)
	for _, l := range samples(t, 31, 3, 7) {
		b := tableOf(t, l)
		for _, w := range allWays() {
			out := subset(random, upTo(len(l)))
			if is, e := assembly.Moves(l, out, w); is != b.moves(out, upTo(len(l)), w) || e != api.OK {
				t.Errorf("%v of %v, %v: %t, %d", out, l, w, is, e)
			}
		}
	}
}

// P4.3: the error of the set, then that of the way.
func TestMovesErrors(t *testing.T) {
	for want, lists := range wrongSets() {
		for _, out := range lists {
			if is, e := assembly.Moves(row(t, 3), out, api.Way{X: 2}); is || e != want {
				t.Errorf("%v: %t, %d, want %d", out, is, e, want)
			}
		}
	}
	for want, ways := range wrongWays() {
		for _, w := range ways {
			if is, e := assembly.Moves(row(t, 3), nil, w); is || e != want {
				t.Errorf("%v: %t, %d, want %d", w, is, e, want)
			}
		}
	}
}

// P4.3: what is carried is the least set with a part that moves out.
func TestCarried(t *testing.T) {
	for part, want := range [][]int{{0, 1, 2}, {1, 2}, {2}} {
		if l, e := assembly.Carried(row(t, 3), part, api.Way{X: 1}); !slices.Equal(l, want) || e != api.OK {
			t.Errorf("%d of a row: %v, %d", part, l, e)
		}
	}
	if l, e := assembly.Carried(shell(t), 1, api.Way{X: 1}); !slices.Equal(l, []int{0, 1}) || e != api.OK {
		t.Errorf("a box in a shell: %v, %d", l, e)
	}
	for _, l := range samples(t, 32, 3, 7) {
		b := tableOf(t, l)
		for _, w := range allWays() {
			for part := range l {
				want := b.carried(part, upTo(len(l)), w)
				if c, e := assembly.Carried(l, part, w); !slices.Equal(c, want) || e != api.OK {
					t.Errorf("%d of %v, %v: %v, %d, want %v", part, l, w, c, e, want)
				}
			}
		}
	}
}

// P4.3: the error of the part, then that of the way.
func TestCarriedErrors(t *testing.T) {
	for _, part := range []int{-1 << 63, -1, 3, 12, 16, 64, 1 << 62} {
		if c, e := assembly.Carried(row(t, 3), part, api.Way{X: 2}); c != nil || e != api.ErrMissing {
			t.Errorf("%d: %v, %d", part, c, e)
		}
	}
	for want, ways := range wrongWays() {
		for _, w := range ways {
			if c, e := assembly.Carried(row(t, 3), 2, w); c != nil || e != want {
				t.Errorf("%v: %v, %d, want %d", w, c, e, want)
			}
		}
	}
}

// P4.3: the ways in which a part moves out alone, with the examples 1 and 3.
func TestFree(t *testing.T) {
	free, e := assembly.Free(pair(t))
	if len(free) != 2 || len(free[0]) != 17 || slices.ContainsFunc(free[0], func(w api.Way) bool { return w.X == 1 }) || e != api.OK {
		t.Errorf("pair: %v, %d", free, e)
	}
	free, e = assembly.Free(channel(t))
	if len(free) != 2 || len(free[1]) != 8 || slices.ContainsFunc(free[1], func(w api.Way) bool { return w.X != 0 }) || e != api.OK {
		t.Errorf("channel: %v, %d", free, e)
	}
	if free, e := assembly.Free(shell(t)); !alike(free, make([][]api.Way, 2)) || e != api.OK {
		t.Errorf("shell: %v, %d", free, e)
	}
	if free, e := assembly.Free(row(t, 1)); !alike(free, [][]api.Way{allWays()}) || e != api.OK {
		t.Errorf("alone: %v, %d", free, e)
	}
	if free, e := assembly.Free(nil); len(free) != 0 || e != api.OK {
		t.Errorf("no parts: %v, %d", free, e)
	}
	for _, l := range samples(t, 33, 3, 12) {
		b := tableOf(t, l)
		want := make([][]api.Way, len(l))
		for _, w := range allWays() {
			for part := range l {
				if b.moves([]int{part}, upTo(len(l)), w) {
					want[part] = append(want[part], w)
				}
			}
		}
		if free, e := assembly.Free(l); !alike(free, want) || e != api.OK {
			t.Errorf("%v: %v, %d, want %v", l, free, e, want)
		}
	}
}

// P4.3: clusters are ordered by what blocks them, then by their least parts.
func TestClusters(t *testing.T) {
	for _, x := range []struct {
		l    []api.Solid
		w    api.Way
		want [][]int
	}{
		{nil, api.Way{X: 1}, nil},
		{row(t, 3), api.Way{X: 1}, [][]int{{2}, {1}, {0}}},
		{row(t, 3), api.Way{X: -1}, [][]int{{0}, {1}, {2}}},
		{row(t, 3), api.Way{Y: 1}, [][]int{{0}, {1}, {2}}},
		{shell(t), api.Way{Y: 1}, [][]int{{0, 1}}},
		{shellInRow(t), api.Way{X: 1}, [][]int{{1, 3}, {0}, {2}}},
		{shellInRow(t), api.Way{X: -1}, [][]int{{2}, {0}, {1, 3}}},
		{shellInRow(t), api.Way{Z: 1}, [][]int{{0}, {1, 3}, {2}}},
	} {
		if c, e := assembly.Clusters(x.l, x.w); !alike(c, x.want) || e != api.OK {
			t.Errorf("%v: %v, %d", x, c, e)
		}
	}
	for want, ways := range wrongWays() {
		for _, w := range ways {
			if c, e := assembly.Clusters(pair(t), w); c != nil || e != want {
				t.Errorf("%v: %v, %d, want %d", w, c, e, want)
			}
		}
	}
}

// P4.3: clusters of random parts are those of the definition.
func TestClustersLiterally(t *testing.T) {
	large := 0
	for _, l := range samples(t, 34, 5, 12) {
		b := tableOf(t, l)
		for _, w := range allWays() {
			want := literalClusters(b[w])
			if c, e := assembly.Clusters(l, w); !alike(c, want) || e != api.OK {
				t.Errorf("%v, %v: %v, %d, want %v", l, w, c, e, want)
			}
			if len(want) > 1 && len(want) < len(l) {
				large++
			}
		}
	}
	if large < 50 {
		t.Errorf("only %d ways with clusters of several parts", large)
	}
}

// literalClusters returns the clusters of parts of which it is known what blocks what.
func literalClusters(blocked [][]bool) [][]int {
	n := len(blocked)
	through := make([][]bool, n)
	for i := range through {
		through[i] = slices.Clone(blocked[i])
		through[i][i] = true
	}
	for k := range n {
		for i := range n {
			for j := range n {
				through[i][j] = through[i][j] || through[i][k] && through[k][j]
			}
		}
	}
	rest := upTo(n)
	var clusters [][]int
	for len(rest) > 0 {
		for _, part := range rest {
			c := slices.DeleteFunc(slices.Clone(rest), func(other int) bool { return !through[part][other] || !through[other][part] })
			if !slices.ContainsFunc(without(rest, c), func(other int) bool { return through[part][other] }) {
				clusters = append(clusters, c)
				rest = without(rest, c)
				break
			}
		}
	}
	return clusters
}
