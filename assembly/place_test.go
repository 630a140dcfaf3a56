package assembly_test

import (
	"math"
	"testing"

	"spokeshave/api"
	"spokeshave/assembly"
	"spokeshave/solid"
)

// P4.7: parts that are moved by a vector, also far beyond what is in the way.
func TestAt(t *testing.T) {
	l := row(t, 3)
	for _, x := range []struct {
		out  []int
		by   [3]int
		want bool
	}{
		{nil, [3]int{1, 1, 1}, true},
		{nil, [3]int{math.MaxInt, 0, 0}, true}, // nothing is moved
		{[]int{0, 1, 2}, [3]int{1, 1, 1}, true},
		{[]int{0}, [3]int{}, true},
		{[]int{0}, [3]int{1, 0, 0}, false},
		{[]int{0}, [3]int{5, 0, 0}, false},
		{[]int{0}, [3]int{6, 0, 0}, true}, // beyond the last one
		{[]int{0}, [3]int{3, 2, 0}, true},
		{[]int{0}, [3]int{3, 1, -1}, false},
		{[]int{0, 1}, [3]int{1, 0, 0}, false},
		{[]int{0, 1}, [3]int{-1, 0, 0}, true},
		{[]int{0, 2}, [3]int{-1, 0, 0}, false}, // the second one of them is in the way
		{[]int{0, 2}, [3]int{0, 0, 2}, true},
		{[]int{1}, [3]int{299996, 0, 0}, true},
	} {
		if is, e := assembly.At(l, x.out, x.by); is != x.want || e != api.OK {
			t.Errorf("%v: %t, %d", x, is, e)
		}
	}
	if is, e := assembly.At(nil, nil, [3]int{}); !is || e != api.OK {
		t.Errorf("no parts: %t, %d", is, e)
	}
}

// P4.7: the error of the set, then the first one of a movement, also where an overlap was found before.
func TestAtErrors(t *testing.T) {
	for want, lists := range wrongSets() {
		for _, out := range lists {
			if is, e := assembly.At(row(t, 3), out, [3]int{600001}); is || e != want {
				t.Errorf("%v: %t, %d, want %d", out, is, e, want)
			}
		}
	}
	for _, x := range []struct {
		out []int
		by  [3]int
	}{
		{[]int{0}, [3]int{600001, 0, 0}},
		{[]int{0}, [3]int{0, -600001, 0}},
		{[]int{0}, [3]int{0, 0, math.MinInt}},
		{[]int{0}, [3]int{299999, 0, 0}},
		{[]int{0, 1}, [3]int{299997, 0, 0}},
		{[]int{1}, [3]int{-300003, 0, 0}},
	} {
		if is, e := assembly.At(row(t, 3), x.out, x.by); is || e != api.ErrRange {
			t.Errorf("%v: %t, %d", x, is, e)
		}
	}
	// Moved by this vector the first part overlaps the third one, and the second one leaves the room.
	l := []api.Solid{box(t, 0, 0, 0, 2, 2, 2), box(t, 299990, 0, 0, 299998, 2, 2), box(t, 4, 0, 0, 8, 2, 2)}
	if is, e := assembly.At(l, []int{0, 1}, [3]int{3, 0, 0}); is || e != api.ErrRange {
		t.Errorf("an overlap and an error: %t, %d", is, e)
	}
}

// P4.7: random sets overlap as their solids do.
func TestAtLiterally(t *testing.T) {
	random := steadily(71)
	count := map[bool]int{}
	for _, l := range samples(t, 71, 4, 6) {
		for range 10 {
			out := subset(random, upTo(len(l)))
			by := [3]int{number(random, -4, 4), number(random, -4, 4), number(random, -4, 4)}
			want := true
			for _, part := range out {
				s, e := solid.Move(l[part], by)
				if e != api.OK {
					t.Fatalf("move: %d", e)
				}
				for _, other := range without(upTo(len(l)), out) {
					_, overlap, _ := solid.Clashes(s, l[other])
					want = want && !overlap
				}
			}
			if is, e := assembly.At(l, out, by); is != want || e != api.OK {
				t.Errorf("%v of %v by %v: %t, %d", out, l, by, is, e)
			}
			count[want]++
		}
	}
	if count[true] < 30 || count[false] < 30 {
		t.Errorf("%v", count)
	}
}
