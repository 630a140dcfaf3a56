package assembly_test

import (
	"slices"
	"testing"

	"spokeshave/api"
	"spokeshave/assembly"
	"spokeshave/solid"
)

// P4.9: what is blocked blocks in the opposite way, and a set moves out just if the rest does in the opposite way.
func TestOppositeWays(t *testing.T) {
	random := steadily(91)
	for _, l := range samples(t, 91, 3, 7) {
		b := tableOf(t, l)
		for _, w := range allWays() {
			for i := range l {
				for k := range l {
					if b[w][i][k] != b[reversed(w)][k][i] {
						t.Fatalf("%v: %d by %d, %v", l, i, k, w)
					}
				}
			}
			out := subset(random, upTo(len(l)))
			is, _ := assembly.Moves(l, out, w)
			if rest, e := assembly.Moves(l, without(upTo(len(l)), out), reversed(w)); rest != is || e != api.OK {
				t.Fatalf("%v: %v, %v: %t, but the rest %t, %d", l, out, w, is, rest, e)
			}
		}
	}
}

// P4.9: what is carried by a part of a set that moves out lies in the set.
func TestCarriedLiesInSets(t *testing.T) {
	for _, l := range samples(t, 92, 1, 6) {
		w := api.Way{X: 1, Y: -1}
		for _, out := range subsets(upTo(len(l))) {
			if is, _ := assembly.Moves(l, out, w); !is {
				continue
			}
			for _, part := range out {
				if c, e := assembly.Carried(l, part, w); len(without(c, out)) > 0 || e != api.OK {
					t.Errorf("%v: %d carries %v, %d, but %v moves out", l, part, c, e, out)
				}
			}
		}
	}
}

// P4.9: turned and moved parts have turned plans and turned graphs.
func TestTurnedParts(t *testing.T) {
	random := steadily(93)
	for _, l := range samples(t, 93, 2, 7) {
		turn := random.IntN(48)
		turned := slices.Clone(l)
		for i, s := range l {
			s, e := solid.Turn(s, turn)
			if e != api.OK {
				t.Fatalf("turn: %d", e)
			}
			if turned[i], e = solid.Move(s, [3]int{1000, -7, 99}); e != api.OK {
				t.Fatalf("move: %d", e)
			}
		}
		image := func(w api.Way) api.Way {
			v, e := solid.Turned([3]int{w.X, w.Y, w.Z}, turn)
			if e != api.OK {
				t.Fatalf("turned: %d", e)
			}
			return api.Way{X: v[0], Y: v[1], Z: v[2]}
		}
		for _, w := range allWays() {
			g, _ := assembly.Graph(l, w)
			if h, e := assembly.Graph(turned, image(w)); !alike(g, h) || e != api.OK {
				t.Errorf("%v, turn %d, %v: %v, %v, %d", l, turn, w, g, h, e)
			}
		}
		p, c, e := assembly.Plan(l)
		if e == api.OK {
			for i := range p {
				p[i].Way = image(p[i].Way)
			}
			if e := assembly.CheckPlan(turned, p); e != api.OK {
				t.Errorf("%v, turn %d: %v: %d", l, turn, p, e)
			}
			continue
		}
		d := api.Locked{Cluster: c.Cluster, Walks: make([][]int, 26)}
		for i, w := range allWays() {
			d.Walks[slices.Index(allWays(), image(w))] = c.Walks[i]
		}
		if e := assembly.CheckLocked(turned, d); e != api.OK {
			t.Errorf("%v, turn %d: %v: %d", l, turn, d, e)
		}
	}
}

// P4.10: where there is a plan, there is one for fewer parts, their blocking is the same, and no cluster is locked.
func TestFewerParts(t *testing.T) {
	random := steadily(94)
	for _, l := range append(samples(t, 94, 4, 9), hookedPairs(t)) {
		some := subset(random, upTo(len(l)))
		var fewer []api.Solid
		for _, part := range some {
			fewer = append(fewer, l[part])
		}
		w := allWays()[random.IntN(26)]
		g, _ := assembly.Graph(l, w)
		h, e := assembly.Graph(fewer, w)
		if e != api.OK {
			t.Fatalf("graph: %d", e)
		}
		for i, part := range some {
			for k, other := range some {
				if slices.Contains(g[part], other) != slices.Contains(h[i], k) {
					t.Errorf("%v: %v, but of %v: %v", l, g, some, h)
				}
			}
		}
		if _, _, e := assembly.Plan(l); e != api.OK {
			continue
		}
		p, c, e := assembly.Plan(fewer)
		if e != api.OK || assembly.CheckPlan(fewer, p) != api.OK {
			t.Errorf("%v of %v: %v, %v, %d", some, l, p, c, e)
		}
		if e := assembly.CheckLocked(fewer, api.Locked{Cluster: upTo(len(fewer)), Walks: walks(upTo(len(fewer))...)}); e == api.OK {
			t.Errorf("%v of %v: a plan and a locked cluster", some, l)
		}
	}
}

// P4.11: a set that moves out in a way overlaps nothing at any place along it.
func TestMovesToPlaces(t *testing.T) {
	random := steadily(95)
	sets := 0
	for _, l := range samples(t, 95, 4, 6) {
		for range 40 {
			out, w := subset(random, upTo(len(l))), allWays()[random.IntN(26)]
			if is, e := assembly.Moves(l, out, w); !is || e != api.OK {
				continue
			}
			sets++
			for _, n := range []int{0, 1, 2, 3, 5, 9, 20, 299000} {
				if is, e := assembly.At(l, out, [3]int{n * w.X, n * w.Y, n * w.Z}); !is || e != api.OK {
					t.Errorf("%v of %v moves out in %v, but %d times it: %t, %d", out, l, w, n, is, e)
				}
			}
		}
	}
	if sets < 200 {
		t.Errorf("only %d sets", sets)
	}
}
