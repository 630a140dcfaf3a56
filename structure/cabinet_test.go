package structure_test

import (
	"math/rand/v2"
	"slices"
	"testing"

	"spokeshave/api"
	"spokeshave/structure"
)

// exampleCabinet is that of the chapter, with so many drawers.
func exampleCabinet(drawers int) api.Cabinet {
	c := api.Cabinet{Depth: 400, Lumps: []api.Lump{{At: 200, Grams: 20000}}}
	for range drawers {
		c.Drawers = append(c.Drawers, api.Drawer{At: 200, Grams: 5000, Travel: 350})
	}
	return c
}

// P7.8 and example 6.
func TestCabinetOfExample(t *testing.T) {
	for _, x := range []struct {
		drawers int
		open    []int
		want    int
	}{{3, nil, 7000000}, {3, []int{0, 1, 2}, 1750000}, {6, []int{0, 1, 2, 3, 4, 5}, -500000}, {3, []int{1}, 5250000}} {
		if n, e := structure.Balance(exampleCabinet(x.drawers), x.open); n != x.want || e != api.OK {
			t.Error(x, n, e)
		}
	}
	for most, want := range map[int]int{0: 0, 5: 0, 6: 500, 12: 500} {
		if n, e := structure.Anchor(exampleCabinet(6), most, 1000); n != want || e != api.OK {
			t.Error(most, n, e)
		}
	}
	if open, n, e := structure.Worst(exampleCabinet(6), 4); !slices.Equal(open, []int{0, 1, 2, 3}) || n != 10000000-4*1750000 || e != api.OK {
		t.Error(open, n, e)
	}
}

// P7.8: the lists of open drawers that are refused. A drawer that is missing comes ahead of the order of the list.
func TestBalanceErrors(t *testing.T) {
	for _, x := range []struct {
		open []int
		want api.Errno
	}{
		{[]int{0, 2}, api.OK}, {[]int{2}, api.OK}, {[]int{3}, api.ErrMissing}, {[]int{-1}, api.ErrMissing},
		{[]int{1, 0}, api.ErrOrder}, {[]int{1, 1}, api.ErrOrder}, {[]int{0, 2, 1}, api.ErrOrder}, {[]int{1, 0, 3}, api.ErrMissing}, {[]int{0, 1, 2, 3}, api.ErrMissing},
	} {
		if n, e := structure.Balance(exampleCabinet(3), x.open); e != x.want || e != api.OK && n != 0 {
			t.Error(x, n, e)
		}
	}
	if n, e := structure.Balance(api.Cabinet{Depth: 1}, nil); n != 0 || e != api.OK {
		t.Error(n, e)
	}
	if _, e := structure.Balance(api.Cabinet{Depth: 1}, []int{0}); e != api.ErrMissing {
		t.Error(e)
	}
}

// P7.8: lumps behind the back or before the front; the anchor is rounded up.
func TestBalanceOfLumps(t *testing.T) {
	c := api.Cabinet{Depth: 100, Lumps: []api.Lump{{At: -50, Grams: 10}, {At: 150, Grams: 4}, {At: 100, Grams: 9}}}
	if n, e := structure.Balance(c, nil); n != 1300 || e != api.OK {
		t.Error(n, e)
	}
	c.Lumps = c.Lumps[1:]
	for height, want := range map[int]int{1: 200, 199: 2, 200: 1, 201: 1, 3000: 1, 100: 2, 3: 67} {
		if n, e := structure.Anchor(c, 0, height); n != want || e != api.OK {
			t.Error(height, n, e)
		}
	}
	c.Lumps = c.Lumps[1:]
	if n, e := structure.Anchor(c, 0, 1); n != 0 || e != api.OK { // a balance of 0 is not negative
		t.Error(n, e)
	}
}

// P7.8: which set is the worst: the least balance, then the fewest drawers, then the first one.
func TestWorst(t *testing.T) {
	c := api.Cabinet{Depth: 100, Drawers: []api.Drawer{
		{At: 10, Grams: 5, Travel: 0}, {At: 10, Grams: 0, Travel: 5}, {At: 10, Grams: 2, Travel: 10}, {At: 20, Grams: 4, Travel: 5}, {At: 10, Grams: 7, Travel: 7}, {At: 0, Grams: 10, Travel: 2},
	}}
	closed, e := structure.Balance(c, nil)
	if e != api.OK {
		t.Fatal(e)
	}
	for most, x := range map[int]struct {
		open []int
		loss int
	}{0: {nil, 0}, 1: {[]int{4}, 49}, 2: {[]int{2, 4}, 69}, 3: {[]int{2, 3, 4}, 89}, 4: {[]int{2, 3, 4, 5}, 109}, 5: {[]int{2, 3, 4, 5}, 109}, 12: {[]int{2, 3, 4, 5}, 109}} {
		if open, n, e := structure.Worst(c, most); !slices.Equal(open, x.open) || n != closed-x.loss || e != api.OK {
			t.Error(most, open, n, e)
		}
	}
}

func randomCabinet(r *rand.Rand, most int) api.Cabinet {
	c := api.Cabinet{Depth: between(r, 1, 3000)}
	for range r.IntN(4) {
		c.Lumps = append(c.Lumps, api.Lump{At: between(r, -3000, 3000), Grams: between(r, 0, 1000000)})
	}
	for range r.IntN(most + 1) {
		d := api.Drawer{At: between(r, -3000, 3000), Grams: r.IntN(4), Travel: r.IntN(4)}
		if r.IntN(3) == 0 {
			d.Grams, d.Travel = between(r, 0, 1000000), between(r, 0, 3000)
		}
		c.Drawers = append(c.Drawers, d)
	}
	return c
}

// balanceBy returns the balance by its definition.
func balanceBy(c api.Cabinet, open []int) int {
	balance := 0
	for _, l := range c.Lumps {
		balance += l.Grams * (c.Depth - l.At)
	}
	for i, d := range c.Drawers {
		at := d.At
		if slices.Contains(open, i) {
			at = d.At + d.Travel
		}
		balance += d.Grams * (c.Depth - at)
	}
	return balance
}

// worstBy looks at all sets.
func worstBy(c api.Cabinet, most int) ([]int, int) {
	worst, least := []int(nil), balanceBy(c, nil)
	for set := range 1 << len(c.Drawers) {
		var open []int
		for i := range c.Drawers {
			if set>>i&1 == 1 {
				open = append(open, i)
			}
		}
		if len(open) > most {
			continue
		}
		balance := balanceBy(c, open)
		if balance < least || balance == least && (len(open) < len(worst) || len(open) == len(worst) && slices.Compare(open, worst) < 0) {
			worst, least = open, balance
		}
	}
	return worst, least
}

// P7.8: balances, worst sets and anchors of random cabinets are those of the definitions.
func TestCabinetsByTheDefinitions(t *testing.T) {
	r := seeded()
	for range 600 {
		c, most := randomCabinet(r, 9), r.IntN(13)
		want, balance := worstBy(c, most)
		open, n, e := structure.Worst(c, most)
		if !slices.Equal(open, want) || n != balance || e != api.OK {
			t.Fatalf("%v, %d: %v, %d, %d, want %v, %d", c, most, open, n, e, want, balance)
		}
		if n, e := structure.Balance(c, open); n != balance || e != api.OK {
			t.Fatalf("%v, %v: %d, %d, want %d", c, open, n, e, balance)
		}
		height := between(r, 1, 3000)
		anchor, e := structure.Anchor(c, most, height)
		if e != api.OK || anchor < 0 || anchor*height+balance < 0 || anchor > 0 && (anchor-1)*height+balance >= 0 {
			t.Fatalf("%v, %d, %d: %d, %d, with the balance %d", c, most, height, anchor, e, balance)
		}
	}
}

// P7.8: what is examined first.
func TestCheckCabinet(t *testing.T) {
	lumps, drawers := make([]api.Lump, 13), make([]api.Drawer, 13)
	for _, x := range []struct {
		c    api.Cabinet
		want api.Errno
	}{
		{api.Cabinet{Depth: 1}, api.OK},
		{api.Cabinet{Depth: 1, Lumps: lumps[:12], Drawers: drawers[:12]}, api.OK},
		{api.Cabinet{Depth: 1, Lumps: lumps}, api.ErrLarge},
		{api.Cabinet{Depth: 1, Drawers: drawers}, api.ErrLarge},
		{api.Cabinet{Depth: 0, Lumps: lumps}, api.ErrRange},
		{api.Cabinet{Depth: 1, Lumps: []api.Lump{{Grams: -1}}, Drawers: drawers}, api.ErrLarge},
		{api.Cabinet{Depth: 1, Lumps: []api.Lump{{}, {At: 3001}}}, api.ErrRange},
		{api.Cabinet{Depth: 1, Drawers: []api.Drawer{{}, {Travel: -1}}}, api.ErrRange},
	} {
		if e := structure.CheckCabinet(x.c); e != x.want {
			t.Errorf("%v: %d, want %d", x.c, e, x.want)
		}
	}
}
