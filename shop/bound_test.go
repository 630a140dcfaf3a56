package shop_test

import (
	"slices"
	"strconv"
	"testing"

	"spokeshave/api"
	"spokeshave/shop"
)

// P9.6: the example of the chapter, and each part of a bound.
func TestBound(t *testing.T) {
	two := func(m api.Machine, first, second api.Operation, others ...api.Operation) api.Shop {
		return api.Shop{Machines: []api.Machine{m}, Operations: append([]api.Operation{first, second}, others...)}
	}
	for name, x := range map[string]struct {
		s    api.Shop
		want int
	}{
		"the example":         {example(), 205},
		"nothing":             {api.Shop{}, 0},
		"an empty machine":    {api.Shop{Machines: machines(1), Operations: operations(1)}, 1},
		"a chain":             {two(machine("m", 9, 9, 9), operation("a", -1, 0, 5), operation("b", 0, 0, 6, 0)), 11},
		"a machine":           {two(machine("m", 9, 99, 9), operation("a", 0, 0, 5), operation("b", 0, 1, 6)), 11},
		"as long as Life":     {two(machine("m", 9, 11, 9), operation("a", 0, 0, 5), operation("b", 0, 1, 6)), 11},
		"longer than Life":    {two(machine("m", 9, 10, 9), operation("a", 0, 0, 5), operation("b", 0, 1, 6)), 20},
		"twice as long":       {two(machine("m", 9, 10, 9), operation("a", 0, 0, 10), operation("b", 0, 1, 10)), 29},
		"longer than twice":   {two(machine("m", 9, 10, 9), operation("a", 0, 0, 10), operation("b", 0, 1, 10), operation("c", 0, 0, 1)), 39},
		"the least head":      {two(machine("m", 0, 99, 0), operation("a", 0, 0, 20, 2), operation("b", 0, 0, 20, 3), operation("c", -1, 0, 7), operation("d", -1, 0, 9)), 47},
		"the least tail":      {two(machine("m", 0, 99, 0), operation("a", 0, 0, 20), operation("b", 0, 0, 20), operation("c", -1, 0, 7, 0), operation("d", -1, 0, 9, 1)), 47},
		"a head of 0":         {two(machine("m", 0, 99, 0), operation("a", 0, 0, 20, 2), operation("b", 0, 0, 20), operation("c", -1, 0, 7)), 40},
		"a tail of its own":   {two(machine("m", 0, 99, 0), operation("a", 0, 0, 20), operation("b", 0, 0, 20), operation("c", -1, 0, 7, 0)), 40},
		"of two machines one": {api.Shop{Machines: machines(2), Operations: []api.Operation{operation("a", 0, 0, 1), operation("b", 1, 0, 1), operation("c", 1, 0, 1)}}, 2},
	} {
		if n, e := shop.Bound(x.s); n != x.want || e != api.OK {
			t.Errorf("%s: %d, %d, want %d", name, n, e, x.want)
		}
	}
}

// P9.6: bounds of random shops by their definition; and no right schedule is shorter (P9.9).
func TestBoundByDefinition(t *testing.T) {
	random := steadily(6)
	met := 0
	for range 800 {
		s := anyShop(random, 8)
		d := definitionOf(s)
		want := d.greatestTail()
		for m := range s.Machines {
			want = max(want, boundBy(d, m))
		}
		bound, e := shop.Bound(s)
		if bound != want || e != api.OK {
			t.Fatalf("%v: %d, %d, want %d", s, bound, e, want)
		}
		for _, starts := range [][]int{must(shop.Greedy(s))(t), anyRight(random, s)} {
			length := must(shop.Makespan(s, starts))(t)
			if length < bound {
				t.Fatalf("%v: %v is shorter than %d", s, starts, bound)
			}
			if length == bound && len(starts) > 3 {
				met++
			}
		}
	}
	if met < 100 {
		t.Errorf("only %d schedules are as short as the bound", met)
	}
}

// boundBy returns the bound by a machine.
func boundBy(d definition, machine int) int {
	var heads, rests []int
	sum := 0
	for n, o := range d.Operations {
		if o.Machine == machine {
			heads = append(heads, d.headOf(n))
			rests = append(rests, d.tailOf(n)-o.Minutes)
			sum += o.Minutes
		}
	}
	if sum == 0 {
		return 0
	}
	m := d.Machines[machine]
	return slices.Min(heads) + sum + slices.Min(rests) + m.Sharpen*((sum-1)/m.Life)
}

// P9.6: sequences with the fewest changes of setups.
func TestFewestSetups(t *testing.T) {
	for name, x := range map[string]struct {
		s       api.Shop
		machine int
		want    []int
		changes int
	}{
		"the saw of the example":    {example(), 0, []int{0, 1}, 1},
		"the planer of the example": {example(), 1, []int{4}, 0},
		"an empty machine":          {alone(), 0, nil, 0},
		"equal setups":              {alone(3, 3, 3), 0, []int{0, 1, 2}, 0},
		"in turn":                   {alone(1, 2, 1, 2), 0, []int{0, 2, 1, 3}, 1},
		"three setups":              {alone(1, 2, 3, 2, 1), 0, []int{0, 4, 1, 3, 2}, 2},
		"of a kind each":            {alone(7, 6, 5, 4, 3, 2, 1, 0), 0, []int{0, 1, 2, 3, 4, 5, 6, 7}, 7},
		"8 of two kinds":            {alone(1, 0, 1, 0, 1, 0, 1, 0), 0, []int{0, 2, 4, 6, 1, 3, 5, 7}, 1},
	} {
		if l, n, e := shop.FewestSetups(x.s, x.machine); !slices.Equal(l, x.want) || n != x.changes || e != api.OK {
			t.Errorf("%s: %v, %d, %d, want %v, %d", name, l, n, e, x.want, x.changes)
		}
	}
	for m, want := range map[int]api.Errno{-1: api.ErrMissing, 2: api.ErrMissing, 1: api.OK} {
		if _, _, e := shop.FewestSetups(example(), m); e != want {
			t.Errorf("machine %d: %d, want %d", m, e, want)
		}
	}
	if l, n, e := shop.FewestSetups(alone(make([]int, 9)...), 0); len(l) != 0 || n != 0 || e != api.ErrLarge {
		t.Errorf("9 operations: %v, %d, %d", l, n, e)
	}
}

// P9.6: operations come behind those that they need, also if these are needed by way of others, on other machines or on none.
func TestFewestSetupsNeeds(t *testing.T) {
	s := alone(1, 2, 1, 9)
	s.Operations[3].Machine = -1
	s.Operations[2].Needs = []int{3}
	if l, n, e := shop.FewestSetups(s, 0); !slices.Equal(l, []int{0, 2, 1}) || n != 1 || e != api.OK {
		t.Errorf("needs what is on no machine: %v, %d, %d", l, n, e)
	}
	s.Operations[3].Needs = []int{1}
	if l, n, e := shop.FewestSetups(s, 0); !slices.Equal(l, []int{1, 0, 2}) || n != 1 || e != api.OK {
		t.Errorf("needs 1 by way of this: %v, %d, %d", l, n, e)
	}
	s.Operations[1].Needs = []int{0}
	if l, n, e := shop.FewestSetups(s, 0); !slices.Equal(l, []int{0, 1, 2}) || n != 2 || e != api.OK {
		t.Errorf("and 1 needs 0: %v, %d, %d", l, n, e)
	}
	// The greatest number of operations, each of the 8 ones behind the others of its machine by way of many others.
	s = api.Shop{Machines: machines(1), Operations: operations(60)}
	var want []int
	for n := range 60 {
		if n > 0 {
			s.Operations[n-1].Needs = []int{n}
		}
		if n%8 == 3 {
			s.Operations[n].Machine, s.Operations[n].Setup = 0, n/8%2
			want = append([]int{n}, want...)
		}
	}
	if l, n, e := shop.FewestSetups(s, 0); !slices.Equal(l, want) || n != 7 || e != api.OK {
		t.Errorf("a long chain: %v, %d, %d, want %v", l, n, e, want)
	}
}

// P9.6: machines of random shops, by all sequences.
func TestFewestSetupsByDefinition(t *testing.T) {
	random := steadily(66)
	for i := range 400 {
		s := anyShop(random, 10)
		if i%8 == 0 { // a machine with many operations
			s.Machines = []api.Machine{machine("m"+strconv.Itoa(i), 1, 100, 1)}
			for n := range s.Operations {
				s.Operations[n].Machine = min(0, random.IntN(6)-1)
			}
			s.Glues = nil
		}
		d := definitionOf(s)
		for m := range s.Machines {
			var on []int
			for n, o := range s.Operations {
				if o.Machine == m {
					on = append(on, n)
				}
			}
			l, n, e := shop.FewestSetups(s, m)
			if len(on) > 7 { // too many to go through all of their sequences
				if (e == api.ErrLarge) != (len(on) > 8) {
					t.Fatalf("%v: %d operations: %d", s, len(on), e)
				}
				continue
			}
			sequence, changes := fewestBy(d, on)
			if !slices.Equal(l, sequence) || n != changes || e != api.OK {
				t.Fatalf("%v, machine %d: %v, %d, %d, want %v, %d", s, m, l, n, e, sequence, changes)
			}
		}
	}
}

// fewestBy returns the first one of the sequences in order that have the fewest changes.
func fewestBy(d definition, on []int) ([]int, int) {
	var best []int
	fewest := -1
	sequences(on, func(sequence []int) {
		if !d.isInOrder(sequence) {
			return
		}
		changes := 0
		for at := range sequence {
			if d.changed(sequence, at) {
				changes++
			}
		}
		if fewest < 0 || changes < fewest {
			best, fewest = sequence, changes
		}
	})
	return best, fewest
}
