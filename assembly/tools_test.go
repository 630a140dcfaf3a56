package assembly_test

import (
	"math/rand/v2"
	"reflect"
	"slices"
	"testing"

	"spokeshave/api"
	"spokeshave/assembly"
	"spokeshave/solid"
)

// box returns the solid of a box from a corner to the opposite one.
func box(t *testing.T, x1, y1, z1, x2, y2, z2 int) api.Solid {
	t.Helper()
	s, e := solid.OfBox(api.Box{X1: x1, Y1: y1, Z1: z1, X2: x2, Y2: y2, Z2: z2})
	if e != api.OK {
		t.Fatalf("box: %d", e)
	}
	return s
}

// union returns the solid of the cells of some solids.
func union(solids ...api.Solid) api.Solid {
	var s api.Solid
	for _, x := range solids {
		s.Cells = append(s.Cells, x.Cells...)
	}
	return s
}

// one returns the solid of one cell.
func one(c api.Cell) api.Solid {
	return api.Solid{Cells: []api.Cell{c}}
}

// open returns a solid that solid.Check refuses with ErrOpen.
func open() api.Solid {
	return one(api.Cell{})
}

// many returns a solid that solid.Check refuses with ErrLarge.
func many() api.Solid {
	return api.Solid{Cells: make([]api.Cell, api.MaxCells+1)}
}

// pair returns the parts of the first example.
func pair(t *testing.T) []api.Solid {
	t.Helper()
	return []api.Solid{box(t, 0, 0, 0, 2, 2, 2), box(t, 2, 0, 0, 4, 2, 2)}
}

// channel returns the walls and the box of the third example.
func channel(t *testing.T) []api.Solid {
	t.Helper()
	walls := union(box(t, 0, 0, 0, 1, 2, 2), box(t, 2, 0, 0, 3, 2, 2))
	return []api.Solid{walls, box(t, 1, 0, 0, 2, 2, 2)}
}

// shell returns six boxes around the box of the fourth example, as one part, and this box.
func shell(t *testing.T) []api.Solid {
	t.Helper()
	around := union(
		box(t, 0, 0, 0, 2, 6, 6), box(t, 4, 0, 0, 6, 6, 6),
		box(t, 2, 0, 0, 4, 2, 6), box(t, 2, 4, 0, 4, 6, 6),
		box(t, 2, 2, 0, 4, 4, 2), box(t, 2, 2, 4, 4, 4, 6),
	)
	return []api.Solid{around, box(t, 2, 2, 2, 4, 4, 4)}
}

// row returns boxes side by side along X.
func row(t *testing.T, count int) []api.Solid {
	t.Helper()
	var l []api.Solid
	for i := range count {
		l = append(l, box(t, 2*i, 0, 0, 2*i+2, 2, 2))
	}
	return l
}

// shellInRow returns a row of boxes at whose end there is a shell with a box inside.
func shellInRow(t *testing.T) []api.Solid {
	t.Helper()
	l := shell(t)
	return []api.Solid{box(t, -2, 0, 0, 0, 6, 6), l[1], box(t, -4, 0, 0, -2, 6, 6), l[0]}
}

// steadily returns numbers that look random, but are the same in each run.
func steadily(seed uint64) *rand.Rand {
	return rand.New(rand.NewPCG(seed, 4))
}

// number returns a number from low to high.
func number(random *rand.Rand, low, high int) int {
	return low + random.IntN(high-low+1)
}

// blocks returns parts of cubes with the side 2 in a block of some cubes in each axis; one place of ten stays empty.
func blocks(t *testing.T, random *rand.Rand, sides [3]int, count int) []api.Solid {
	t.Helper()
	var cells []api.Cell
	for i := range sides[0] * sides[1] * sides[2] {
		x, y, z := i%sides[0]*2, i/sides[0]%sides[1]*2, i/sides[0]/sides[1]*2
		if random.IntN(10) > 0 {
			cells = append(cells, box(t, x, y, z, x+2, y+2, z+2).Cells...)
		}
	}
	return dealt(random, cells, count)
}

// shards returns parts of the cells that remain when a cube is cut by random planes.
func shards(t *testing.T, random *rand.Rand, cells, count int) []api.Solid {
	t.Helper()
	all := box(t, 0, 0, 0, 24, 24, 24).Cells
	for len(all) < cells {
		i := random.IntN(len(all))
		p := api.Plane{A: number(random, -2, 2), B: number(random, -2, 2), C: number(random, -2, 2)}
		p.D = p.A*random.IntN(25) + p.B*random.IntN(25) + p.C*random.IntN(25)
		low := api.Cell{Planes: append(slices.Clone(all[i].Planes), p)}
		high := api.Cell{Planes: append(slices.Clone(all[i].Planes), api.Plane{A: -p.A, B: -p.B, C: -p.C, D: -p.D})}
		if solid.CheckCell(low) == api.OK && solid.CheckCell(high) == api.OK {
			all[i] = low
			all = append(all, high)
		}
	}
	return dealt(random, all, count)
}

// dealt returns parts of some cells, each one with at least one of them.
func dealt(random *rand.Rand, cells []api.Cell, count int) []api.Solid {
	l := make([]api.Solid, count)
	for i, c := range random.Perm(len(cells)) {
		to := i
		if i >= count {
			to = random.IntN(count)
		}
		l[to].Cells = append(l[to].Cells, cells[c])
	}
	return l
}

// samples returns random parts of many kinds: some can be taken apart, some cannot.
func samples(t *testing.T, seed uint64, each, most int) [][]api.Solid {
	t.Helper()
	random := steadily(seed)
	var all [][]api.Solid
	for range each {
		count := number(random, 1, most)
		all = append(all,
			blocks(t, random, [3]int{2, 2, 2}, min(count, 4)),
			blocks(t, random, [3]int{3, 2, 2}, min(count, 6)),
			blocks(t, random, [3]int{3, 3, 2}, 1+(count+1)/3),
			blocks(t, random, [3]int{3, 3, 3}, 1+(count+1)/2),
			blocks(t, random, [3]int{4, 4, 1}, count),
			shards(t, random, number(random, count, count+3), count))
	}
	return append(all, pair(t), channel(t), shell(t), row(t, 3))
}

// allWays returns all ways, in their order.
func allWays() []api.Way {
	var l []api.Way
	for x := -1; x <= 1; x++ {
		for y := -1; y <= 1; y++ {
			for z := -1; z <= 1; z++ {
				if x != 0 || y != 0 || z != 0 {
					l = append(l, api.Way{X: x, Y: y, Z: z})
				}
			}
		}
	}
	return l
}

func reversed(w api.Way) api.Way {
	return api.Way{X: -w.X, Y: -w.Y, Z: -w.Z}
}

// table tells for each way, part and other part whether the first one is blocked by the second one.
type table map[api.Way][][]bool

// tableOf asks Blocked, which has tests of its own, for each two parts.
func tableOf(t *testing.T, l []api.Solid) table {
	t.Helper()
	b := table{}
	for _, w := range allWays() {
		for i := range l {
			b[w] = append(b[w], make([]bool, len(l)))
			for k := range l {
				if i == k {
					continue
				}
				is, e := assembly.Blocked(l[i], l[k], w)
				if e != api.OK {
					t.Fatalf("blocked: %d", e)
				}
				b[w][i][k] = is
			}
		}
	}
	return b
}

// moves tells, by the definition, whether a set moves out of a group.
func (b table) moves(out, group []int, w api.Way) bool {
	for _, i := range out {
		for _, k := range group {
			if !slices.Contains(out, k) && b[w][i][k] {
				return false
			}
		}
	}
	return true
}

// carried returns, by the definition, the least of the sets with a part that move out of a group.
func (b table) carried(part int, group []int, w api.Way) []int {
	least := group
	for _, out := range subsets(group) {
		if len(out) < len(least) && slices.Contains(out, part) && b.moves(out, group, w) {
			least = out
		}
	}
	return least
}

// subsets returns all subsets of an ascending list, ascending.
func subsets(group []int) [][]int {
	all := [][]int{nil}
	for _, part := range group {
		for _, s := range slices.Clone(all) {
			all = append(all, append(slices.Clone(s), part))
		}
	}
	return all
}

// without returns a list without what is in another one.
func without(group, out []int) []int {
	return slices.DeleteFunc(slices.Clone(group), func(part int) bool { return slices.Contains(out, part) })
}

// upTo returns the numbers below a number.
func upTo(count int) []int {
	var l []int
	for i := range count {
		l = append(l, i)
	}
	return l
}

// subset returns a random subset of an ascending list.
func subset(random *rand.Rand, group []int) []int {
	return slices.DeleteFunc(slices.Clone(group), func(int) bool { return random.IntN(2) == 0 })
}

// wrongSets are lists that are no sets of three parts, with their errors.
func wrongSets() map[api.Errno][][]int {
	return map[api.Errno][][]int{
		api.ErrMissing: {{3}, {-1}, {0, 3}, {-1, 0}, {1, 0, 3}, {0, 0, -1}, {2, 1, 1 << 62}, {-1 << 63}},
		api.ErrOrder:   {{1, 0}, {0, 0}, {0, 2, 1}, {2, 2}, {0, 1, 2, 0}},
	}
}

// wrongWays are vectors that are no ways, with their errors.
func wrongWays() map[api.Errno][]api.Way {
	return map[api.Errno][]api.Way{
		api.ErrRange: {{X: 2}, {Y: -2}, {Z: 2}, {X: 1, Y: 1, Z: -2}, {X: -1 << 63}, {Z: 1<<63 - 1}},
		api.ErrZero:  {{}},
	}
}

// wrongParts are lists that are no parts, with their errors.
func wrongParts(t *testing.T) map[api.Errno][][]api.Solid {
	t.Helper()
	a, b := box(t, 0, 0, 0, 2, 2, 2), box(t, 1, 1, 1, 3, 3, 3)
	return map[api.Errno][][]api.Solid{
		api.ErrLarge: {row(t, 13), make([]api.Solid, 13), {many()}, {a, b, many()}},
		api.ErrOpen:  {{open()}, {a, open()}, {a, b, open(), {}}},
		api.ErrEmpty: {{{}}, {a, {}, open()}, {a, b, {}}},
		api.ErrClash: {{a, a}, {a, b}, {a, box(t, 5, 5, 5, 6, 6, 6), union(box(t, 9, 9, 9, 10, 10, 10), b)}},
	}
}

// alike reports whether two values are equal, a nil list being an empty one.
func alike(a, b any) bool {
	return reflect.DeepEqual(filled(reflect.ValueOf(a)).Interface(), filled(reflect.ValueOf(b)).Interface())
}

// filled returns a deep copy without nil lists.
func filled(v reflect.Value) reflect.Value {
	to := reflect.New(v.Type()).Elem()
	switch v.Kind() {
	case reflect.Slice:
		to.Set(reflect.MakeSlice(v.Type(), v.Len(), v.Len()))
		for i := range v.Len() {
			to.Index(i).Set(filled(v.Index(i)))
		}
	case reflect.Struct:
		for i := range v.NumField() {
			to.Field(i).Set(filled(v.Field(i)))
		}
	default:
		to.Set(v)
	}
	return to
}
