package shop_test

import (
	"slices"
	"testing"

	"spokeshave/api"
	"spokeshave/shop"
)

// P9.2: the example of the chapter, and shops with next to nothing.
func TestTimesExample(t *testing.T) {
	s := example()
	if l, e := shop.Order(s); !slices.Equal(l, []int{0, 1, 2, 3, 4}) || e != api.OK {
		t.Errorf("Order: %v, %d", l, e)
	}
	if l, e := shop.Heads(s); !slices.Equal(l, []int{0, 40, 70, 80, 170}) || e != api.OK {
		t.Errorf("Heads: %v, %d", l, e)
	}
	if l, e := shop.Tails(s); !slices.Equal(l, []int{190, 150, 120, 110, 20}) || e != api.OK {
		t.Errorf("Tails: %v, %d", l, e)
	}
	if n, l, e := shop.Critical(s); n != 190 || !slices.Equal(l, []int{0, 1, 2, 3, 4}) || e != api.OK {
		t.Errorf("Critical: %d, %v, %d", n, l, e)
	}
	if n, l, e := shop.Critical(api.Shop{Machines: s.Machines}); n != 0 || len(l) != 0 || e != api.OK {
		t.Errorf("Critical without operations: %d, %v, %d", n, l, e)
	}
	for name, call := range map[string]func(s api.Shop) ([]int, api.Errno){"Order": shop.Order, "Heads": shop.Heads, "Tails": shop.Tails} {
		if l, e := call(api.Shop{}); len(l) != 0 || e != api.OK {
			t.Errorf("%s without operations: %v, %d", name, l, e)
		}
	}
}

// P9.2: those that need a Press wait for its cure, those that need the Spread do not, and the end of a Press is without its cure.
func TestTimesCure(t *testing.T) {
	s := api.Shop{
		Operations: []api.Operation{operation("s", -1, 0, 3), operation("p", -1, 0, 5, 0), operation("a", -1, 0, 7, 0), operation("b", -1, 0, 1, 1, 2)},
		Glues:      []api.Glue{{Spread: 0, Press: 1, Open: 3, Cure: 20}},
	}
	if l, e := shop.Heads(s); !slices.Equal(l, []int{0, 3, 3, 28}) || e != api.OK {
		t.Errorf("Heads: %v, %d", l, e)
	}
	if l, e := shop.Tails(s); !slices.Equal(l, []int{29, 26, 8, 1}) || e != api.OK {
		t.Errorf("Tails: %v, %d", l, e)
	}
	if n, l, e := shop.Critical(s); n != 29 || !slices.Equal(l, []int{0, 1, 3}) || e != api.OK {
		t.Errorf("Critical: %d, %v, %d", n, l, e)
	}
	s.Operations = s.Operations[:3]
	if l, e := shop.Tails(s); !slices.Equal(l, []int{10, 5, 7}) || e != api.OK {
		t.Errorf("Tails without the last one: %v, %d", l, e)
	}
	if n, l, e := shop.Critical(s); n != 10 || !slices.Equal(l, []int{0, 2}) || e != api.OK {
		t.Errorf("Critical without the last one: %d, %v, %d", n, l, e)
	}
}

// P9.2: of several orders and chains the first ones are returned, also if later numbers come ahead of earlier ones.
func TestTimesFirst(t *testing.T) {
	s := api.Shop{Operations: []api.Operation{
		operation("a", -1, 0, 2, 3), operation("b", -1, 0, 2, 4), operation("c", -1, 0, 1), operation("d", -1, 0, 2), operation("e", -1, 0, 2), operation("f", -1, 0, 2, 3),
	}}
	if l, e := shop.Order(s); !slices.Equal(l, []int{2, 3, 0, 4, 1, 5}) || e != api.OK {
		t.Errorf("Order: %v, %d", l, e)
	}
	if n, l, e := shop.Critical(s); n != 4 || !slices.Equal(l, []int{3, 0}) || e != api.OK {
		t.Errorf("Critical: %d, %v, %d", n, l, e)
	}
}

// P9.2: orders of random shops by all sequences, and heads, tails and chains by their definitions.
func TestTimesByDefinition(t *testing.T) {
	random := steadily(2)
	for range 400 {
		s := anyShop(random, 7)
		d := definitionOf(s)
		if l, e := shop.Order(s); !slices.Equal(l, firstOrder(d)) || e != api.OK {
			t.Fatalf("%v: Order %v, %d, want %v", s, l, e, firstOrder(d))
		}
		heads, e := shop.Heads(s)
		if e != api.OK || len(heads) != len(s.Operations) {
			t.Fatalf("%v: Heads %v, %d", s, heads, e)
		}
		tails, e := shop.Tails(s)
		if e != api.OK || len(tails) != len(s.Operations) {
			t.Fatalf("%v: Tails %v, %d", s, tails, e)
		}
		for n := range s.Operations {
			if heads[n] != d.headOf(n) || tails[n] != d.tailOf(n) {
				t.Fatalf("%v: operation %d has %d and %d, want %d and %d", s, n, heads[n], tails[n], d.headOf(n), d.tailOf(n))
			}
		}
		if n, l, e := shop.Critical(s); n != d.greatestTail() || !slices.Equal(l, firstChain(d)) || e != api.OK {
			t.Fatalf("%v: Critical %d, %v, %d, want %d, %v", s, n, l, e, d.greatestTail(), firstChain(d))
		}
	}
}

// firstOrder returns the first one of all sequences of the operations that is an order.
func firstOrder(d definition) []int {
	var first []int
	found := false
	sequences(upTo(len(d.Operations)), func(sequence []int) {
		if !found && d.isInOrder(sequence) {
			first, found = sequence, true
		}
	})
	return first
}

// firstChain returns the first one of all lists that Critical may return.
func firstChain(d definition) []int {
	var chains [][]int
	var extend func(chain []int, left int)
	extend = func(chain []int, left int) {
		last := chain[len(chain)-1]
		if d.tailOf(last) != left {
			return
		}
		if left == d.Operations[last].Minutes {
			chains = append(chains, chain)
		}
		for n, o := range d.Operations {
			if slices.Contains(o.Needs, last) {
				extend(append(slices.Clone(chain), n), left-d.Operations[last].Minutes-d.cure(last))
			}
		}
	}
	for n := range d.Operations {
		if d.headOf(n) == 0 {
			extend([]int{n}, d.greatestTail())
		}
	}
	if len(chains) == 0 {
		return nil
	}
	return slices.MinFunc(chains, slices.Compare)
}

// P9.7: the latest starts of the example, and deadlines that can or cannot be kept.
func TestLatest(t *testing.T) {
	s := example()
	for deadline, want := range map[int][]int{
		215:      {25, 65, 95, 105, 195},
		190:      {0, 40, 70, 80, 170},
		10000000: {9999810, 9999850, 9999880, 9999890, 9999980},
	} {
		if l, e := shop.Latest(s, deadline); !slices.Equal(l, want) || e != api.OK {
			t.Errorf("%d: %v, %d, want %v", deadline, l, e, want)
		}
	}
	for deadline, want := range map[int]api.Errno{189: api.ErrLate, 0: api.ErrLate, -1: api.ErrRange, 10000001: api.ErrRange} {
		if l, e := shop.Latest(s, deadline); len(l) != 0 || e != want {
			t.Errorf("%d: %v, %d, want %d", deadline, l, e, want)
		}
	}
	if l, e := shop.Latest(api.Shop{}, 0); len(l) != 0 || e != api.OK {
		t.Errorf("without operations: %v, %d", l, e)
	}
}

// P9.7: latest starts of random shops by their definition.
func TestLatestByDefinition(t *testing.T) {
	random := steadily(27)
	for range 400 {
		s := anyShop(random, 8)
		d := definitionOf(s)
		deadline := max(0, d.greatestTail()+random.IntN(5)-2)
		var want []int
		late := false
		for n := range s.Operations {
			want = append(want, deadline-d.tailOf(n))
			late = late || d.headOf(n) > deadline-d.tailOf(n)
		}
		l, e := shop.Latest(s, deadline)
		if late && (e != api.ErrLate || len(l) != 0) || !late && (e != api.OK || !slices.Equal(l, want)) {
			t.Fatalf("%v, %d: %v, %d, want %v, late: %v", s, deadline, l, e, want, late)
		}
	}
}
