package shop_test

import (
	"slices"
	"testing"

	"spokeshave/api"
	"spokeshave/shop"
)

// P9.9: what follows of the greedy schedule, of bounds, heads and tails.
func TestConsequencesOfShops(t *testing.T) {
	random := steadily(9)
	for range 1500 {
		s := anyShop(random, 12)
		starts := must(shop.Greedy(s))(t)
		if n, e := shop.Accept(s, starts); n != -1 || e != api.OK {
			t.Fatalf("%v: the greedy schedule %v is refused: %d, %d", s, starts, n, e)
		}
		for i, open := range must(shop.Opened(s, starts))(t) {
			if open > s.Glues[i].Open {
				t.Fatalf("%v: %v: glue-up %d is pressed too late", s, starts, i)
			}
		}
		bound, length := must(shop.Bound(s))(t), must(shop.Makespan(s, starts))(t)
		critical, chain, e := shop.Critical(s)
		if e != api.OK || critical > bound || bound > length || (len(chain) == 0) != (len(s.Operations) == 0) {
			t.Fatalf("%v: chain %v of %d, bound %d, length %d, error %d", s, chain, critical, bound, length, e)
		}
		heads, tails := must(shop.Heads(s))(t), must(shop.Tails(s))(t)
		for n := range s.Operations {
			if heads[n]+tails[n] > critical || heads[n] > starts[n] {
				t.Fatalf("%v: operation %d: %d and %d", s, n, heads[n], tails[n])
			}
		}
	}
}

// P9.9: what follows of any accepted schedule.
func TestConsequencesOfSchedules(t *testing.T) {
	random := steadily(99)
	for range 600 {
		s := anyShop(random, 8)
		starts := anyRight(random, s)
		if n, e := shop.Accept(s, starts); n != -1 || e != api.OK {
			t.Fatalf("%v: %v is refused: %d, %d", s, starts, n, e)
		}
		if must(shop.MostClamps(s, starts))(t) > s.Clamps {
			t.Fatalf("%v: %v uses more clamps than there are", s, starts)
		}
		if must(shop.Makespan(s, starts))(t) < must(shop.Bound(s))(t) {
			t.Fatalf("%v: %v is shorter than the bound", s, starts)
		}
		fewest := 0
		for m := range s.Machines {
			_, n, e := shop.FewestSetups(s, m)
			if e != api.OK {
				t.Fatalf("%v: FewestSetups of %d: %d", s, m, e)
			}
			fewest += n
		}
		if must(shop.Setups(s, starts))(t) < fewest {
			t.Fatalf("%v: %v has less than %d changes", s, starts, fewest)
		}
		for n := range s.Operations {
			if l, e := shop.Delay(s, starts, n, 0); !slices.Equal(l, starts) || e != api.OK {
				t.Fatalf("%v: %v delayed by 0: %v, %d", s, starts, l, e)
			}
		}
	}
}
