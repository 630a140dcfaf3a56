package joint_test

import (
	"math/rand/v2"
	"reflect"
	"slices"
	"testing"

	"spokeshave/api"
	"spokeshave/joint"
	"spokeshave/solid"
)

// The kinds of joints.
const (
	lap = iota
	bridle
	tenon
	stopped
	tongue
	dovetail
	scarf
	fingers
	dowels
	spline
	three
	countKinds
)

// made returns a joint.
func made(kind, l, w, t int, numbers ...int) api.Joint {
	return api.Joint{Kind: kind, Size: [3]int{l, w, t}, Numbers: numbers}
}

// plain returns a right joint of each kind.
func plain() []api.Joint {
	return []api.Joint{
		made(lap, 4000, 4000, 2000, 1000),
		made(bridle, 4000, 4000, 2000, 700, 1300),
		made(tenon, 60, 40, 30, 10, 30, 10, 20),
		made(stopped, 60, 40, 30, 40, 5, 10, 30, 10, 20),
		made(tongue, 60, 40, 30, 20, 5, 10, 20),
		made(dovetail, 1200, 6000, 2000, 6, 2000, 2000),
		made(scarf, 12000, 3000, 2000, 0, 1, 6),
		made(fingers, 30, 40, 30, 10, 20, 30),
		made(dowels, 60, 40, 30, 30, 4, 6, 10, 12, 2, 10, 15, 30, 14),
		made(spline, 40, 40, 30, 40, 5, 6, 10, 20),
		made(three, 40, 40, 30, 12, 15, 25, 14, 26),
	}
}

// steadily returns numbers that look random, but are the same in each run.
func steadily(row uint64) *rand.Rand {
	return rand.New(rand.NewPCG(row, 3))
}

// number returns a number from low to high.
func number(random *rand.Rand, low, high int) int {
	return low + random.IntN(high-low+1)
}

// picks returns ascending numbers between 0 and an end.
func picks(random *rand.Rand, end, count int) []int {
	l := random.Perm(end - 1)[:count]
	for i := range l {
		l[i]++
	}
	slices.Sort(l)
	return l
}

// anyJoint returns a small right joint of a kind.
func anyJoint(random *rand.Rand, kind int) api.Joint {
	l, w, t := number(random, 4, 12), number(random, 5, 12), number(random, 4, 12)
	depth := number(random, 1, l-1)
	gap := number(random, 0, l-1-depth)
	switch kind {
	case lap:
		return made(kind, l, w, t, picks(random, t, 1)...)
	case bridle:
		return made(kind, l, w, t, picks(random, t, 2)...)
	case tenon:
		return made(kind, l, w, t, slices.Concat(picks(random, w, 2), picks(random, t, 2))...)
	case stopped:
		return made(kind, l, w, t, slices.Concat([]int{depth, gap}, picks(random, w, 2), picks(random, t, 2))...)
	case tongue:
		return made(kind, l, max(1, gap+number(random, -1, 1)), t, slices.Concat([]int{depth, gap}, picks(random, t, 2))...)
	case dovetail:
		return anyDovetail(random, t)
	case scarf:
		return anyScarf(random, w)
	case fingers:
		return made(kind, l, w, t, picks(random, w, number(random, 1, 4))...)
	case dowels:
		return anyDowels(random)
	case spline:
		h, d := number(random, 1, 4), number(random, 1, 4)
		c := h + d + number(random, 0, 4)
		l = (c+h+d+1)/2 + number(random, 0, 4)
		return made(kind, l, l, t, slices.Concat([]int{c, h, d}, picks(random, t, 2))...)
	}
	return made(kind, l, w, t, slices.Concat(picks(random, t, 1), picks(random, l, 2), picks(random, w, 2))...)
}

func anyDovetail(random *rand.Rand, t int) api.Joint {
	s, k, w := number(random, 1, 8), number(random, 1, 2), number(random, 1, 4)
	numbers := []int{s, w}
	end := 0
	for range number(random, 1, 3) {
		begin := end + k + number(random, 0, 3)
		numbers = append(numbers, begin)
		end = begin + w + k
	}
	return made(dovetail, s*k, end+number(random, 0, 3), t, numbers...)
}

func anyScarf(random *rand.Rand, w int) api.Joint {
	p, q := number(random, 1, 8), number(random, 1, 8)
	if random.IntN(2) == 0 {
		q = -q
	}
	t := number(random, 1, 9)
	for q*t%p != 0 {
		t++
	}
	step := q * t / p
	x1 := max(0, -step) + number(random, 0, 3)
	return made(scarf, max(x1, x1+step)+number(random, 0, 3), w, t, x1, p, q)
}

func anyDowels(random *rand.Rand) api.Joint {
	r := number(random, 2, 4)
	e := number(random, r+1, 2*r-1)
	a, b, gap := number(random, 1, 4), number(random, 1, 4), number(random, 0, 2)
	m := b + gap + number(random, 1, 3)
	t := 2*r + number(random, 2, 5)
	numbers := []int{m, r, e, a, b, gap}
	end := 0
	for range number(random, 1, 3) {
		y := end + r + number(random, 1, 3)
		numbers = append(numbers, y, number(random, r+1, t-r-1))
		end = y + r
	}
	return made(dowels, m+a+gap+number(random, 1, 3), end+number(random, 1, 3), t, numbers...)
}

// keeps returns what each member of a right joint keeps, loose ones, too, and its gaps.
func keeps(t *testing.T, j api.Joint) ([]api.Solid, api.Solid) {
	t.Helper()
	members, e := joint.Members(j.Kind)
	if e != api.OK {
		t.Fatalf("%v: %d members, %d", j, members, e)
	}
	loose, e := joint.Loose(j)
	if e != api.OK {
		t.Fatalf("%v: %d loose members, %d", j, loose, e)
	}
	var all []api.Solid
	for i := range members + loose {
		s, e := joint.Keeps(j, i)
		if e != api.OK {
			t.Fatalf("%v: what %d keeps: %d", j, i, e)
		}
		all = append(all, s)
	}
	gaps, e := joint.Gaps(j)
	if e != api.OK {
		t.Fatalf("%v: gaps: %d", j, e)
	}
	return all, gaps
}

// box returns the solid of a box from a corner to the opposite one.
func box(t *testing.T, x1, y1, z1, x2, y2, z2 int) api.Solid {
	t.Helper()
	s, e := solid.OfBox(api.Box{X1: x1, Y1: y1, Z1: z1, X2: x2, Y2: y2, Z2: z2})
	if e != api.OK {
		t.Fatalf("box: %d", e)
	}
	return s
}

// union returns the solid of the cells of some solids.
func union(solids ...api.Solid) api.Solid {
	var s api.Solid
	for _, x := range solids {
		s.Cells = append(s.Cells, x.Cells...)
	}
	return s
}

// open returns a solid that solid.Check refuses.
func open() api.Solid {
	return api.Solid{Cells: []api.Cell{{}}}
}

// alike reports whether two values are equal, a nil list being an empty one.
func alike(a, b any) bool {
	return reflect.DeepEqual(filled(reflect.ValueOf(a)).Interface(), filled(reflect.ValueOf(b)).Interface())
}

// filled returns a deep copy without nil lists.
func filled(v reflect.Value) reflect.Value {
	to := reflect.New(v.Type()).Elem()
	switch v.Kind() {
	case reflect.Slice:
		to.Set(reflect.MakeSlice(v.Type(), v.Len(), v.Len()))
		for i := range v.Len() {
			to.Index(i).Set(filled(v.Index(i)))
		}
	case reflect.Struct:
		for i := range v.NumField() {
			to.Field(i).Set(filled(v.Field(i)))
		}
	default:
		to.Set(v)
	}
	return to
}
