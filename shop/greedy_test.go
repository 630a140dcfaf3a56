package shop_test

import (
	"slices"
	"strconv"
	"testing"

	"spokeshave/api"
	"spokeshave/shop"
)

// P9.4: the example of the chapter, and shops with next to nothing.
func TestGreedyExample(t *testing.T) {
	if l, e := shop.Greedy(example()); !slices.Equal(l, exampleStarts()) || e != api.OK {
		t.Errorf("%v, %d", l, e)
	}
	if l, e := shop.Greedy(api.Shop{}); len(l) != 0 || e != api.OK {
		t.Errorf("nothing: %v, %d", l, e)
	}
	if l, e := shop.Greedy(api.Shop{Operations: operations(3)}); !slices.Equal(l, []int{0, 0, 0}) || e != api.OK {
		t.Errorf("on no machine: %v, %d", l, e)
	}
}

// P9.4: a machine does nothing ahead of what was placed on it earlier, even if it has time.
func TestGreedyMachine(t *testing.T) {
	s := alone(1, 1, 1)
	s.Operations[0].Machine, s.Operations[0].Minutes = -1, 50
	s.Operations[1].Needs = []int{0}
	if l, e := shop.Greedy(s); !slices.Equal(l, []int{0, 50, 51}) || e != api.OK {
		t.Errorf("%v, %d", l, e)
	}
	s = alone(1, 1, 2, 1)
	s.Operations[0].Needs = []int{3}
	s.Operations[3].Machine, s.Operations[3].Minutes = -1, 50
	// 1, then 2, then 3 (on no machine), then 0.
	if l, e := shop.Greedy(s); !slices.Equal(l, []int{50, 0, 8, 0}) || e != api.OK {
		t.Errorf("%v, %d", l, e)
	}
	s.Operations[1].Needs = []int{3}
	s.Operations[0].Needs = nil
	s.Operations[2].Needs = nil
	// 0, then 2, then 3, then 1.
	if l, e := shop.Greedy(s); !slices.Equal(l, []int{0, 50, 8, 0}) || e != api.OK {
		t.Errorf("%v, %d", l, e)
	}
	s.Operations[3].Needs = []int{2}
	s.Operations[2].Minutes = 60
	// 2 waits behind 0; then 3 and 1 wait for it.
	if l, e := shop.Greedy(s); !slices.Equal(l, []int{0, 118, 8, 68}) || e != api.OK {
		t.Errorf("%v, %d", l, e)
	}
}

// P9.4: what is next again is the ready unit with the least number, also one that was not ready before.
func TestGreedyTurn(t *testing.T) {
	s := alone(0, 0, 0, 0)
	s.Operations[0].Needs = []int{2}
	// 1, 2, 0, 3
	if l, e := shop.Greedy(s); !slices.Equal(l, []int{2, 0, 1, 3}) || e != api.OK {
		t.Errorf("%v, %d", l, e)
	}
}

// P9.4: a Press is in the unit of its Spread, so it comes ahead of operations with lesser numbers; and it is pressed in time.
func TestGreedyGlue(t *testing.T) {
	s := api.Shop{
		Machines:   []api.Machine{machine("saw", 5, 100, 0), machine("press", 3, 100, 0)},
		Operations: []api.Operation{operation("spread", 0, 1, 2), operation("long", 1, 1, 40, 0), operation("other", 0, 1, 4, 0), operation("press", 1, 2, 10, 0)},
		Glues:      []api.Glue{{Spread: 0, Press: 3, Open: 6, Cure: 9}},
	}
	if l, e := shop.Greedy(s); !slices.Equal(l, []int{0, 15, 2, 2}) || e != api.OK {
		t.Errorf("%v, %d", l, e)
	}
	// The machine of the Press is busy, so that the spreading is put off, and with it what comes behind on its machine.
	s.Operations = append([]api.Operation{operation("first", 1, 1, 40)}, s.Operations...)
	for n := range s.Operations[2:] {
		s.Operations[n+2].Needs = []int{1}
	}
	s.Glues[0] = api.Glue{Spread: 1, Press: 4, Open: 6, Cure: 9}
	if l, e := shop.Greedy(s); !slices.Equal(l, []int{0, 37, 56, 39, 43}) || e != api.OK {
		t.Errorf("put off: %v, %d", l, e)
	}
	s.Glues[0].Open = 43
	if l, e := shop.Greedy(s); !slices.Equal(l, []int{0, 0, 56, 2, 43}) || e != api.OK {
		t.Errorf("just in time: %v, %d", l, e)
	}
}

// P9.4: clamps are looked at from minute to minute.
func TestGreedyClamps(t *testing.T) {
	for _, x := range []struct {
		clamps  int
		presses [][2]int // minutes and clamps
		want    []int
	}{
		{4, [][2]int{{10, 2}, {10, 2}}, []int{1, 1}},
		{3, [][2]int{{10, 2}, {10, 2}}, []int{1, 11}},
		{3, [][2]int{{10, 2}, {10, 2}, {5, 1}}, []int{1, 11, 1}},
		{3, [][2]int{{10, 2}, {10, 2}, {5, 2}}, []int{1, 11, 21}},
		{3, [][2]int{{10, 3}, {10, 2}, {50, 0}}, []int{1, 11, 1}},
		{3, [][2]int{{10, 3}, {10, 3}, {10, 1}}, []int{1, 11, 21}},
		{3, [][2]int{{9, 2}, {4, 1}, {5, 1}, {6, 1}}, []int{1, 1, 5, 10}},
		{0, [][2]int{{10, 0}, {10, 0}}, []int{1, 1}},
	} {
		starts, e := shop.Greedy(presses(x.clamps, x.presses...))
		if e != api.OK || len(starts) != 2*len(x.want) {
			t.Errorf("%v: %v, %d", x.presses, starts, e)
			continue
		}
		for n, want := range x.want {
			if starts[2*n+1] != want || starts[2*n] != max(0, want-5) {
				t.Errorf("%d %v: glue-up %d at %d and %d, want %d", x.clamps, x.presses, n, starts[2*n], starts[2*n+1], want)
			}
		}
	}
}

// P9.4: a Press may run between two others that were placed earlier, but only if there is time for all of it.
func TestGreedyBetween(t *testing.T) {
	for minutes, want := range map[int]int{1: 11, 19: 11, 20: 11, 21: 41} {
		s := api.Shop{
			Clamps: 1,
			Operations: []api.Operation{
				operation("wait", -1, 0, 30),
				operation("s0", -1, 0, 1), operation("p0", -1, 0, 10, 1),
				operation("s1", -1, 0, 1, 0), operation("p1", -1, 0, 10, 3),
				operation("s2", -1, 0, 1), operation("p2", -1, 0, minutes, 5),
			},
			Glues: []api.Glue{{Spread: 1, Press: 2, Open: 5, Clamps: 1}, {Spread: 3, Press: 4, Open: 5, Clamps: 1}, {Spread: 5, Press: 6, Open: 5, Clamps: 1}},
		}
		if l, e := shop.Greedy(s); !slices.Equal(l, []int{0, 0, 1, 30, 31, want - 5, want}) || e != api.OK {
			t.Errorf("%d: %v, %d, want %d", minutes, l, e, want)
		}
	}
}

// P9.4: random shops by the definition, minute by minute; and the schedule is always right (P9.9).
func TestGreedyByDefinition(t *testing.T) {
	random := steadily(4)
	putOff := 0
	for range 1500 {
		s := anyShop(random, 9)
		want := definitionOf(s).greedy()
		l, e := shop.Greedy(s)
		if e != api.OK || !slices.Equal(l, want) {
			t.Fatalf("%v: %v, %d, want %v", s, l, e, want)
		}
		if n, e := shop.Accept(s, l); n != -1 || e != api.OK {
			t.Fatalf("%v: %v is refused: %d, %d", s, l, n, e)
		}
		for _, g := range s.Glues {
			if l[g.Press] == l[g.Spread]+g.Open && g.Open > s.Operations[g.Spread].Minutes {
				putOff++
			}
		}
	}
	if putOff < 20 {
		t.Errorf("only %d glue-ups were put off", putOff)
	}
}

// P9.4: the longest schedules are right, too.
func TestGreedyLongest(t *testing.T) {
	s := api.Shop{Machines: []api.Machine{machine("m", 10000, 10000, 10000)}, Clamps: 1000}
	for n := range 60 {
		o := operation("o"+strconv.Itoa(n), 0, n%2, 10000)
		if n > 0 {
			o.Needs = []int{n - 1}
		}
		if n%3 == 2 {
			o.Machine = -1
			s.Glues = append(s.Glues, api.Glue{Spread: n - 1, Press: n, Open: 10000, Cure: 100000, Clamps: 1000})
		}
		s.Operations = append(s.Operations, o)
	}
	l, e := shop.Greedy(s)
	if e != api.OK {
		t.Fatal(e)
	}
	if n, e := shop.Accept(s, l); n != -1 || e != api.OK {
		t.Errorf("refused: %d, %d", n, e)
	}
	if n, e := shop.Makespan(s, l); n != 60*10000+19*100000+20*20000 || e != api.OK {
		t.Errorf("length %d, %d", n, e)
	}
}
