package solid_test

import (
	"math/big"
	"slices"
	"testing"

	"spokeshave/api"
	"spokeshave/solid"
)

// P1.10: what is left overlaps nothing of what was taken away, and is, with what is common, the same as before.
func TestPartsMakeTheWhole(t *testing.T) {
	s := seed(101)
	whole := 0
	for i := range 200 {
		size := []int{3, 8, 1000}[i%3]
		a, b := s.solid(s.number(1, 3), size), s.solid(s.number(1, 2), size)
		left, e := solid.Minus(a, b)
		both, f := solid.Meet(a, b)
		if e != api.OK || f != api.OK {
			continue
		}
		if o, is, e := solid.Clashes(left, b); is || e != api.OK {
			t.Fatalf("%v without %v overlaps it: %v, %d", a, b, o, e)
		}
		if _, is, e := solid.Clashes(a, b); is != (len(both.Cells) > 0) || e != api.OK {
			t.Fatalf("%v and %v: overlap %v, but have %v in common", a, b, is, both)
		}
		all, e := solid.Join(left, both)
		if e != api.OK {
			continue
		}
		if is, e := solid.Same(all, a); e == api.OK && !is {
			t.Fatalf("%v without %v, and what is common, are not the same", a, b)
		} else if e == api.OK {
			whole++
		}
	}
	if whole < 100 {
		t.Errorf("only %d of 200 were compared", whole)
	}
}

// P1.10: where random points are in the parts follows from where they are in the solids.
func TestPartsPointByPoint(t *testing.T) {
	s := seed(102)
	for range 60 {
		a, b := s.solid(2, 4), s.solid(2, 4)
		left, e := solid.Minus(a, b)
		both, f := solid.Meet(a, b)
		if e != api.OK || f != api.OK {
			continue
		}
		for range 200 {
			c := api.Corner{X: s.number(-500, 500), Y: s.number(-500, 500), Z: s.number(-500, 500), Den: 101}
			inA, inB := where(t, a, c), where(t, b, c)
			if inA == 1 && inB == 1 && where(t, both, c) < 0 {
				t.Fatalf("%v is missing in what %v and %v have in common", c, a, b)
			}
			if where(t, both, c) == 1 && (inA != 1 || inB != 1) {
				t.Fatalf("%v is not common to %v and %v", c, a, b)
			}
			if inA == 1 && inB == -1 && where(t, left, c) < 0 {
				t.Fatalf("%v is missing in %v without %v", c, a, b)
			}
			if where(t, left, c) == 1 && (inA != 1 || inB == 1) {
				t.Fatalf("%v is not left of %v without %v", c, a, b)
			}
		}
	}
}

func where(t *testing.T, s api.Solid, c api.Corner) int {
	t.Helper()
	n, e := solid.Where(s, c)
	if e != api.OK {
		t.Fatalf("where: %d", e)
	}
	return n
}

// P1.10: a solid covers its cells; what covers something covers what that covers; turns and movements keep this.
func TestCoveringIsKept(t *testing.T) {
	s := seed(103)
	for range 60 {
		c := s.solid(3, 6)
		b := union(c, s.solid(1, 6))
		a := union(s.solid(1, 6), b)
		for i := range c.Cells {
			if !covers(t, c, one(c.Cells[i])) {
				t.Fatalf("%v does not cover its cell %d", c, i)
			}
		}
		if !covers(t, a, b) || !covers(t, b, c) || !covers(t, a, c) {
			t.Fatalf("%v, %v, %v: covering is not transitive", a, b, c)
		}
		other := s.solid(2, 6)
		turn, by := s.number(0, 47), [3]int{s.number(-9999, 9999), s.number(-9999, 9999), s.number(-9999, 9999)}
		// The pieces may be other ones behind a turn, and more than a solid may have.
		before, e := solid.Covers(a, other)
		after, f := solid.Covers(placed(t, a, turn, by), placed(t, other, turn, by))
		if e == api.OK && f == api.OK && before != after {
			t.Fatalf("%v, %v: turn %d and movement %v change the covering from %v", a, other, turn, by, before)
		}
	}
}

// covers is the answer of Covers, or true where what is left is too large.
func covers(t *testing.T, a, b api.Solid) bool {
	t.Helper()
	is, e := solid.Covers(a, b)
	if e != api.OK && e != api.ErrLarge {
		t.Fatalf("covers: %d", e)
	}
	return is || e == api.ErrLarge
}

// placed returns a solid that is turned and then moved.
func placed(t *testing.T, s api.Solid, turn int, by [3]int) api.Solid {
	t.Helper()
	turned, e := solid.Turn(s, turn)
	if e != api.OK {
		t.Fatalf("turn: %d", e)
	}
	moved, e := solid.Move(turned, by)
	if e != api.OK {
		t.Fatalf("move: %d", e)
	}
	return moved
}

// P1.10: all turns, and movements, keep volumes, and so do mirror images.
func TestVolumesAreKept(t *testing.T) {
	s := union(box(t, 0, 0, 0, 5, 3, 2), box(t, 4, 1, -3, 9, 2, 2), cube(t, 30, 31))
	want, _ := solid.Volume(s)
	images := map[[3]int]bool{}
	for turn := range 48 {
		if v, e := solid.Volume(placed(t, s, turn, [3]int{turn, -7, 100 * turn})); v != want || e != api.OK {
			t.Errorf("turn %d: %d, %d, want %d", turn, v, e, want)
		}
		v, _ := solid.Turned([3]int{1, 2, 3}, turn)
		images[v] = true
	}
	if len(images) != 48 {
		t.Errorf("%d turns differ", len(images))
	}
	// The 24 turns that keep the handedness are closed under Both.
	for first := range 24 {
		for then := range 24 {
			if n, e := solid.Both(first, then); n >= 24 || e != api.OK {
				t.Errorf("%d, then %d: %d, %d", first, then, n, e)
			}
		}
	}
}

// P1.10: the corners of a normal form are those of the cell, and its normal form is itself.
func TestNormalKeepsCorners(t *testing.T) {
	s := seed(104)
	for range 300 {
		c := s.cell(9)
		n, _ := solid.Normal(c)
		if !alike(corners(t, one(n)), corners(t, one(c))) {
			t.Fatalf("%v: the normal form %v has other corners", c, n)
		}
		if again, e := solid.Normal(n); e != api.OK || !alike(again, n) {
			t.Fatalf("%v: %v is not its own normal form", c, n)
		}
		// The same planes in another order, and some of them multiplied, have the same normal form.
		var other api.Cell
		for _, p := range slices.Backward(c.Planes) {
			if q := (api.Plane{A: 2 * p.A, B: 2 * p.B, C: 2 * p.C, D: 2 * p.D}); solid.CheckPlane(q) == api.OK {
				p = q
			}
			other.Planes = append(other.Planes, p)
		}
		if same, e := solid.Normal(other); e != api.OK || !alike(same, n) {
			t.Fatalf("%v: %v has another normal form", c, other)
		}
	}
}

// P1.11: with the largest normals and bounds the corners are exact, and their denominators are at most 2048.
func TestSizes(t *testing.T) {
	s := seed(111)
	greatest := 0
	for range 300 {
		planes := cellBox(300000).Planes
		for range 4 {
			p := api.Plane{A: s.extreme(), B: s.extreme(), C: s.extreme()}
			p.D = s.number(-99999, 2000000)
			planes = append(planes, p, api.Plane{A: -p.A, B: -p.B, C: -p.C, D: s.number(5000000, 10000000)})
		}
		l, e := solid.Corners(api.Cell{Planes: planes})
		if e == api.ErrEmpty {
			continue
		}
		want := exactCorners(planes)
		if e != api.OK || len(l) != len(want) {
			t.Fatalf("%v: %d corners, %d, want %d", planes, len(l), e, len(want))
		}
		for _, c := range l {
			greatest = max(greatest, c.Den)
			if c.Den < 1 || c.Den > 2048 || !want[c] {
				t.Fatalf("%v: the corner %v", planes, c)
			}
		}
	}
	if greatest < 500 {
		t.Errorf("the greatest denominator was %d", greatest)
	}
}

// extreme returns a number near one of the ends of what a normal may have.
func (s *seed) extreme() int {
	n := s.number(5, 8)
	if s.number(0, 1) == 0 {
		return -n
	}
	return n
}

// exactCorners returns the corners of a cell, with numbers that have no bounds.
func exactCorners(planes []api.Plane) map[api.Corner]bool {
	found := map[api.Corner]bool{}
	for i, p := range planes {
		for j, q := range planes[:i] {
			for _, r := range planes[:j] {
				if c, ok := exactCorner(planes, p, q, r); ok {
					found[c] = true
				}
			}
		}
	}
	return found
}

// exactCorner solves the equations of three planes by elimination.
func exactCorner(planes []api.Plane, three ...api.Plane) (api.Corner, bool) {
	var rows [3][4]*big.Rat
	for i, p := range three {
		for j, n := range []int{p.A, p.B, p.C, p.D} {
			rows[i][j] = big.NewRat(int64(n), 1)
		}
	}
	for col := range 3 {
		pivot := slices.IndexFunc(rows[col:], func(row [4]*big.Rat) bool { return row[col].Sign() != 0 })
		if pivot < 0 {
			return api.Corner{}, false
		}
		rows[col], rows[col+pivot] = rows[col+pivot], rows[col]
		first := new(big.Rat).Set(rows[col][col])
		for j := range 4 {
			rows[col][j] = new(big.Rat).Quo(rows[col][j], first)
		}
		for i := range 3 {
			factor := rows[i][col]
			for j := 0; i != col && j < 4; j++ {
				rows[i][j] = new(big.Rat).Sub(rows[i][j], new(big.Rat).Mul(factor, rows[col][j]))
			}
		}
	}
	x, y, z := rows[0][3], rows[1][3], rows[2][3]
	for _, p := range planes {
		sum := new(big.Rat)
		for i, n := range []int{p.A, p.B, p.C} {
			sum.Add(sum, new(big.Rat).Mul(big.NewRat(int64(n), 1), rows[i][3]))
		}
		if sum.Cmp(big.NewRat(int64(p.D), 1)) > 0 {
			return api.Corner{}, false
		}
	}
	den := big.NewInt(1)
	for _, n := range []*big.Rat{x, y, z} {
		gcd := new(big.Int).GCD(nil, nil, den, n.Denom())
		den = new(big.Int).Div(new(big.Int).Mul(den, n.Denom()), gcd)
	}
	whole := func(n *big.Rat) int {
		return int(new(big.Rat).Mul(n, new(big.Rat).SetInt(den)).Num().Int64())
	}
	return api.Corner{X: whole(x), Y: whole(y), Z: whole(z), Den: int(den.Int64())}, true
}
