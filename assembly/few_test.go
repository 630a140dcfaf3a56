package assembly_test

import (
	"slices"
	"testing"

	"spokeshave/api"
	"spokeshave/assembly"
)

// singles tells, by the definition, whether a group can be taken apart part by part, in any order.
func singles(b table, group []int) bool {
	if len(group) < 2 {
		return true
	}
	for _, part := range group {
		for _, w := range allWays() {
			if b.moves([]int{part}, group, w) && singles(b, without(group, []int{part})) {
				return true
			}
		}
	}
	return false
}

// P4.6, P4.10: a plan of single parts is a plan; there is one where some order of the parts is one.
func TestSingle(t *testing.T) {
	count := map[bool]int{}
	for _, l := range append(samples(t, 61, 12, 6), row(t, 12), row(t, 1), nil, shellInRow(t)) {
		b := tableOf(t, l)
		is := singles(b, upTo(len(l)))
		count[is]++
		p, e := assembly.Single(l)
		if !is {
			if p != nil || e != api.ErrNone {
				t.Errorf("%v: %v, %d, but there is none", l, p, e)
			}
			continue
		}
		if e != api.OK || literalPlan(b, len(l), p) != api.OK || assembly.CheckPlan(l, p) != api.OK {
			t.Errorf("%v: %v, %d", l, p, e)
		}
		if slices.ContainsFunc(p, func(s api.Split) bool { return len(s.Out) != 1 }) {
			t.Errorf("%v: %v", l, p)
		}
	}
	if count[true] < 15 || count[false] < 15 {
		t.Errorf("%v", count)
	}
}

// P4.6: two pairs of hooked parts, next to each other, that come apart only as pairs at first.
func TestSingleOfPairs(t *testing.T) {
	l := hookedPairs(t)
	if p, _, e := assembly.Plan(l); len(p) != 3 || e != api.OK {
		t.Errorf("plan: %v, %d", p, e)
	}
	if p, e := assembly.Single(l); p != nil || e != api.ErrNone {
		t.Errorf("single: %v, %d", p, e)
	}
	for part := range l {
		if n, e := assembly.Depth(l, part); n != 2 || e != api.OK {
			t.Errorf("depth of %d: %d, %d", part, n, e)
		}
	}
}

// hookedPairs returns two pairs, a lower one and an upper one. The bar of a pair lies in a tunnel of its partner and comes out along X alone; stops of the other pair are in its way there, and the pairs come apart along Z.
func hookedPairs(t *testing.T) []api.Solid {
	t.Helper()
	tunnel := func(z int) api.Solid {
		return union(box(t, 2, 0, z, 8, 10, z+2), box(t, 2, 0, z+4, 8, 10, z+6), box(t, 2, 0, z+2, 8, 4, z+4), box(t, 2, 6, z+2, 8, 10, z+4))
	}
	stops := func(y, z int) api.Solid {
		return union(box(t, 0, y, z, 2, y+1, z+2), box(t, 8, y, z, 10, y+1, z+2))
	}
	return []api.Solid{
		union(tunnel(0), stops(5, 8)), box(t, 2, 4, 2, 8, 6, 4),
		union(tunnel(6), stops(4, 2)), box(t, 2, 4, 8, 8, 6, 10),
	}
}

// literalDepth returns, by the definition, the depth of a part in a group, or 99 if it cannot be alone.
func literalDepth(b table, part int, group []int, known map[string]int) int {
	if len(group) == 1 {
		return 0
	}
	key := string(toBytes(group))
	if n, ok := known[key]; ok {
		return n
	}
	least := 99
	for _, out := range subsets(group) {
		for _, w := range allWays() {
			if len(out) == 0 || len(out) == len(group) || !b.moves(out, group, w) {
				continue
			}
			next := out
			if !slices.Contains(out, part) {
				next = without(group, out)
			}
			least = min(least, 1+literalDepth(b, part, next, known))
			break
		}
	}
	known[key] = least
	return least
}

func toBytes(list []int) []byte {
	var l []byte
	for _, n := range list {
		l = append(l, byte(n))
	}
	return l
}

// P4.6, P4.10: the depth of a part, and what follows from it.
func TestDepth(t *testing.T) {
	if n, e := assembly.Depth(channel(t), 1); n != 1 || e != api.OK {
		t.Errorf("channel: %d, %d", n, e)
	}
	if n, e := assembly.Depth(row(t, 1), 0); n != 0 || e != api.OK {
		t.Errorf("alone: %d, %d", n, e)
	}
	count := map[int]int{}
	for _, l := range append(samples(t, 62, 10, 6), shellInRow(t), row(t, 8), hookedPairs(t)) {
		b := tableOf(t, l)
		all := upTo(len(l))
		for part := range l {
			n, e := assembly.Depth(l, part)
			want := literalDepth(b, part, all, map[string]int{})
			count[want]++
			if want == 99 {
				if n != 0 || e != api.ErrLocked {
					t.Errorf("%d of %v: %d, %d, but it is locked", part, l, n, e)
				}
				continue
			}
			if n != want || e != api.OK {
				t.Errorf("%d of %v: %d, %d, want %d", part, l, n, e, want)
			}
			others := without(all, []int{part})
			first := slices.ContainsFunc(allWays(), func(w api.Way) bool {
				return b.moves([]int{part}, all, w) || b.moves(others, all, w)
			})
			if len(l) > 1 && (n == 1) != first || n > len(l)-1 {
				t.Errorf("%d of %v: %d, %t", part, l, n, first)
			}
		}
	}
	for _, n := range []int{1, 2, 99} {
		if count[n] < 5 {
			t.Errorf("the depth %d came %d times", n, count[n])
		}
	}
}

// P4.6: the error of the part comes first.
func TestDepthErrors(t *testing.T) {
	for _, x := range []struct {
		l    []api.Solid
		part int
		want api.Errno
	}{
		{nil, 0, api.ErrMissing},
		{pair(t), 2, api.ErrMissing},
		{pair(t), -1, api.ErrMissing},
		{pair(t), 1 << 62, api.ErrMissing},
		{row(t, 9), 9, api.ErrMissing},
		{row(t, 9), 8, api.ErrLarge},
		{row(t, 12), 0, api.ErrLarge},
		{row(t, 8), 7, api.OK},
		{shell(t), 0, api.ErrLocked},
		{shell(t), 1, api.ErrLocked},
	} {
		n, e := assembly.Depth(x.l, x.part)
		if e != x.want || e != api.OK && n != 0 {
			t.Errorf("%d of %d parts: %d, %d, want %d", x.part, len(x.l), n, e, x.want)
		}
	}
}
