package assembly_test

import (
	"math/big"
	"math/rand/v2"
	"testing"

	"spokeshave/api"
	"spokeshave/assembly"
	"spokeshave/joint"
	"spokeshave/solid"
)

// P4.2: the examples 1, 3 and 4.
func TestBlocked(t *testing.T) {
	sides, walls, closed := pair(t), channel(t), shell(t)
	far := box(t, 6, 6, 0, 8, 8, 2)
	past := box(t, 6, 10, 0, 8, 12, 2)
	for _, w := range allWays() {
		for name, x := range map[string]struct {
			p, q api.Solid
			want bool
		}{
			"the left box by the right one": {sides[0], sides[1], w.X == 1},
			"the right box by the left one": {sides[1], sides[0], w.X == -1},
			"a box by walls":                {walls[1], walls[0], w.X != 0},
			"walls by a box":                {walls[0], walls[1], w.X != 0},
			"a box by a shell":              {closed[1], closed[0], true},
			"a shell by a box":              {closed[0], closed[1], true},
			"a box by one far away":         {sides[0], far, w == api.Way{X: 1, Y: 1}},
			"a box by one that it passes":   {sides[0], past, false},
			"a box by itself":               {far, far, true},
			"no cells":                      {api.Solid{}, far, false},
			"a box by no cells":             {far, api.Solid{}, false},
		} {
			if is, e := assembly.Blocked(x.p, x.q, w); is != x.want || e != api.OK {
				t.Errorf("%s, %v: %t, %d", name, w, is, e)
			}
		}
	}
}

// P4.2: the first error of the arguments.
func TestBlockedErrors(t *testing.T) {
	a := box(t, 0, 0, 0, 2, 2, 2)
	for _, x := range []struct {
		p, q api.Solid
		w    api.Way
		want api.Errno
	}{
		{open(), many(), api.Way{}, api.ErrOpen},
		{many(), open(), api.Way{}, api.ErrLarge},
		{a, open(), api.Way{X: 2}, api.ErrOpen},
		{api.Solid{}, many(), api.Way{}, api.ErrLarge},
		{a, a, api.Way{X: 2}, api.ErrRange},
		{a, a, api.Way{}, api.ErrZero},
		{api.Solid{}, api.Solid{}, api.Way{}, api.ErrZero},
	} {
		if is, e := assembly.Blocked(x.p, x.q, x.w); is || e != x.want {
			t.Errorf("%v: %t, %d, want %d", x, is, e, x.want)
		}
	}
}

// literally decides, as the chapter says it, whether a cell is blocked by another one: with all planes, all points on three of them, and numbers of any size.
func literally(p, q api.Cell, w api.Way) bool {
	planes := append([]api.Plane{}, q.Planes...)
	for _, a := range p.Planes {
		ahead := a.A*w.X + a.B*w.Y + a.C*w.Z
		if ahead <= 0 {
			planes = append(planes, a)
			continue
		}
		for _, b := range p.Planes {
			if back := b.A*w.X + b.B*w.Y + b.C*w.Z; back < 0 {
				planes = append(planes, api.Plane{
					A: ahead*b.A - back*a.A, B: ahead*b.B - back*a.B, C: ahead*b.C - back*a.C, D: ahead*b.D - back*a.D,
				})
			}
		}
	}
	within := make([]bool, len(planes))
	for i := range planes {
		for j := range i {
			for k := range j {
				for n, is := range cornerWithin(planes, planes[i], planes[j], planes[k]) {
					within[n] = within[n] || is
				}
			}
		}
	}
	for n, p := range planes {
		// Without a normal a plane has nothing or all points within it.
		if !within[n] && (p.A != 0 || p.B != 0 || p.C != 0 || p.D <= 0) {
			return false
		}
	}
	return true
}

// cornerWithin tells of which planes the corner on three of them is within; there is none if it is beyond one.
func cornerWithin(planes []api.Plane, p, q, r api.Plane) []bool {
	a, b, c, d := [3]int{p.A, q.A, r.A}, [3]int{p.B, q.B, r.B}, [3]int{p.C, q.C, r.C}, [3]int{p.D, q.D, r.D}
	den := determinant(a, b, c)
	if den.Sign() == 0 {
		return nil
	}
	x, y, z := determinant(d, b, c), determinant(a, d, c), determinant(a, b, d)
	within := make([]bool, len(planes))
	for n, p := range planes {
		sum := new(big.Int)
		for i, factor := range []*big.Int{x, y, z, den} {
			sum.Add(sum, new(big.Int).Mul(factor, big.NewInt(int64([]int{p.A, p.B, p.C, -p.D}[i]))))
		}
		side := sum.Sign() * den.Sign()
		if side > 0 {
			return nil
		}
		within[n] = side < 0
	}
	return within
}

func determinant(a, b, c [3]int) *big.Int {
	sum := new(big.Int)
	for i := range 3 {
		for j := range 3 {
			if k := 3 - i - j; k != i && k != j && i != j {
				sign := int64((j - i + 3) % 3)
				if sign == 2 {
					sign = -1
				}
				term := big.NewInt(sign)
				for _, n := range []int{a[i], b[j], c[k]} {
					term.Mul(term, big.NewInt(int64(n)))
				}
				sum.Add(sum, term)
			}
		}
	}
	return sum
}

// anyCell returns a random cell: a box with one or two further planes, of which the numbers grow with the size.
func anyCell(random *rand.Rand, size, normal int) api.Cell {
	for {
		var c api.Cell
		for _, n := range []api.Plane{{A: 1}, {B: 1}, {C: 1}} {
			low := number(random, -size, size-1)
			high := number(random, low+1, size)
			c.Planes = append(c.Planes, api.Plane{A: n.A, B: n.B, C: n.C, D: high}, api.Plane{A: -n.A, B: -n.B, C: -n.C, D: -low})
		}
		for range number(random, 0, 2) {
			p := api.Plane{A: number(random, -normal, normal), B: number(random, -normal, normal), C: number(random, -normal, normal)}
			p.D = p.A*number(random, -size, size) + p.B*number(random, -size, size) + p.C*number(random, -size, size)
			c.Planes = append(c.Planes, p)
		}
		if solid.CheckCell(c) == api.OK {
			return c
		}
	}
}

// P4.2: random cells, also as large as the room, are blocked as the chapter says it.
func TestBlockedLiterally(t *testing.T) {
	random := steadily(21)
	count := map[bool]int{}
	for i := range 60 {
		size := []int{3, 10, 300000}[i%3]
		p, q := anyCell(random, size, []int{2, 8, 8}[i%3]), anyCell(random, size, 8)
		for range 3 {
			w := allWays()[random.IntN(26)]
			is, e := assembly.Blocked(one(p), one(q), w)
			if want := literally(p, q, w); is != want || e != api.OK {
				t.Fatalf("%v by %v, %v: %t, %d", p, q, w, is, e)
			}
			count[is]++
		}
	}
	if count[true] < 30 || count[false] < 30 {
		t.Errorf("%v", count)
	}
}

// P4.2: touching cells that come from one cube, too, where most planes and corners fall together.
func TestBlockedShards(t *testing.T) {
	random := steadily(22)
	count := map[bool]int{}
	for range 40 {
		l := shards(t, random, 6, 6)
		p, q := l[0], l[1]
		w := allWays()[random.IntN(26)]
		is, e := assembly.Blocked(p, q, w)
		if want := literally(p.Cells[0], q.Cells[0], w); is != want || e != api.OK {
			t.Fatalf("%v by %v, %v: %t, %d", p, q, w, is, e)
		}
		count[is]++
	}
	if count[true] < 5 || count[false] < 5 {
		t.Errorf("%v", count)
	}
}

// far returns a cell with the steepest normals in a tip of the room: the greatest numbers that there are.
func far(t *testing.T, x, y, z, size int) api.Solid {
	t.Helper()
	at := func(a, b, c int) api.Plane {
		return api.Plane{A: a, B: b, C: c, D: a*x + b*y + c*z + size}
	}
	s := one(api.Cell{Planes: []api.Plane{
		at(8, 7, 8), at(-8, -8, -7), at(8, -7, -8), at(-7, 8, -8), at(-8, 8, 7), at(7, -8, 8), at(8, 8, -7), at(-7, -8, 8),
	}})
	if e := solid.Check(s); e != api.OK {
		t.Fatalf("far: %d", e)
	}
	return s
}

// P4.2: no number grows too large.
func TestBlockedFarAway(t *testing.T) {
	p := far(t, -299990, -299990, -299990, 50)
	for i := range 8 {
		x, y, z := 299990*(i&1*2-1), 299990*(i&2-1), 299990*(i&4/2-1)
		q := far(t, x, y, z, 70)
		for _, w := range allWays() {
			is, e := assembly.Blocked(p, q, w)
			if want := literally(p.Cells[0], q.Cells[0], w); is != want || e != api.OK {
				t.Errorf("%v, %v: %t, %d", q, w, is, e)
			}
		}
	}
}

// P4.2: of boxes with even places, those are blocked that overlap when they are moved by some whole number of steps: the times at which they overlap have whole even ends.
func TestBlockedByMoving(t *testing.T) {
	random := steadily(23)
	for range 12 {
		l := blocks(t, random, [3]int{2, 2, 2}, 3)
		for _, w := range allWays() {
			want := false
			for n := 1; n < 8 && !want; n++ {
				moved, e := solid.Move(l[0], [3]int{n * w.X, n * w.Y, n * w.Z})
				if e != api.OK {
					t.Fatalf("move: %d", e)
				}
				if _, want, e = solid.Clashes(moved, l[1]); e != api.OK {
					t.Fatalf("clashes: %d", e)
				}
			}
			if is, e := assembly.Blocked(l[0], l[1], w); is != want || e != api.OK {
				t.Errorf("%v by %v, %v: %t, %d", l[0], l[1], w, is, e)
			}
		}
	}
}

// P4.2: a part is blocked if some pair of cells is.
func TestBlockedCells(t *testing.T) {
	for _, l := range samples(t, 24, 2, 3) {
		if len(l) < 2 {
			continue
		}
		for _, w := range allWays() {
			want := false
			for _, c := range l[0].Cells {
				for _, d := range l[1].Cells {
					is, _ := assembly.Blocked(one(c), one(d), w)
					want = want || is
				}
			}
			if is, e := assembly.Blocked(l[0], l[1], w); is != want || e != api.OK {
				t.Errorf("%v by %v, %v: %t, %d", l[0], l[1], w, is, e)
			}
		}
	}
}

// P4.2: the members of joints are free as chapter 3 says it.
func TestBlockedJoints(t *testing.T) {
	for _, j := range []api.Joint{
		{Kind: 0, Size: [3]int{4000, 4000, 2000}, Numbers: []int{1000}},
		{Kind: 3, Size: [3]int{60, 40, 30}, Numbers: []int{40, 5, 10, 30, 10, 20}},
		{Kind: 4, Size: [3]int{60, 40, 30}, Numbers: []int{20, 5, 10, 20}},
		{Kind: 5, Size: [3]int{1200, 6000, 2000}, Numbers: []int{6, 2000, 2000}},
		{Kind: 6, Size: [3]int{12000, 3000, 2000}, Numbers: []int{0, 1, 6}},
		{Kind: 7, Size: [3]int{30, 40, 30}, Numbers: []int{10, 20, 30}},
		{Kind: 10, Size: [3]int{40, 40, 30}, Numbers: []int{12, 15, 25, 14, 26}},
	} {
		members, e := joint.Members(j.Kind)
		if e != api.OK {
			t.Fatalf("members: %d", e)
		}
		var l []api.Solid
		var want [][]api.Way
		for member := range members {
			s, e := joint.Keeps(j, member)
			if e != api.OK {
				t.Fatalf("keeps: %d", e)
			}
			free, e := joint.Free(j, member)
			if e != api.OK {
				t.Fatalf("free: %d", e)
			}
			l, want = append(l, s), append(want, free)
		}
		if free, e := assembly.Free(l); !alike(free, want) || e != api.OK {
			t.Errorf("%v: %v, %d, want %v", j, free, e, want)
		}
	}
}

// P4.2: the graph has the pairs of which the first one is blocked by the second one.
func TestGraph(t *testing.T) {
	if l, e := assembly.Graph(row(t, 3), api.Way{X: 1, Y: -1}); !alike(l, [][]int{{1}, {2}, {}}) || e != api.OK {
		t.Errorf("row: %v, %d", l, e)
	}
	if l, e := assembly.Graph(row(t, 3), api.Way{X: -1}); !alike(l, [][]int{{}, {0}, {0, 1}}) || e != api.OK {
		t.Errorf("row backwards: %v, %d", l, e)
	}
	if l, e := assembly.Graph(nil, api.Way{X: 1}); len(l) != 0 || e != api.OK {
		t.Errorf("no parts: %v, %d", l, e)
	}
	for _, l := range samples(t, 25, 3, 7) {
		b := tableOf(t, l)
		for _, w := range allWays() {
			want := make([][]int, len(l))
			for i := range l {
				for k := range l {
					if b[w][i][k] {
						want[i] = append(want[i], k)
					}
				}
			}
			if g, e := assembly.Graph(l, w); !alike(g, want) || e != api.OK {
				t.Errorf("%v, %v: %v, %d, want %v", l, w, g, e, want)
			}
		}
	}
	for want, ways := range wrongWays() {
		for _, w := range ways {
			if g, e := assembly.Graph(pair(t), w); g != nil || e != want {
				t.Errorf("%v: %v, %d, want %d", w, g, e, want)
			}
		}
	}
}
