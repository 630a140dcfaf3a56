package shop_test

import (
	"math/rand/v2"
	"slices"
	"testing"

	"spokeshave/api"
	"spokeshave/shop"
)

// P9.5: what is told of the schedule of the example.
func TestMeasureExample(t *testing.T) {
	s, starts := example(), exampleStarts()
	for name, x := range map[string]struct {
		call func(s api.Shop, starts []int) (int, api.Errno)
		want int
	}{
		"Makespan": {shop.Makespan, 215}, "Setups": {shop.Setups, 1}, "Sharpenings": {shop.Sharpenings, 1}, "MostClamps": {shop.MostClamps, 4},
	} {
		if n, e := x.call(s, starts); n != x.want || e != api.OK {
			t.Errorf("%s: %d, %d, want %d", name, n, e, x.want)
		}
		if n, e := x.call(api.Shop{}, nil); n != 0 || e != api.OK {
			t.Errorf("%s of nothing: %d, %d", name, n, e)
		}
	}
	for m, want := range [][]int{{0, 1}, {4}} {
		if l, e := shop.Sequence(s, starts, m); !slices.Equal(l, want) || e != api.OK {
			t.Errorf("Sequence of %d: %v, %d, want %v", m, l, e, want)
		}
	}
	for minute, want := range map[int]int{0: 0, 104: 0, 105: 4, 164: 4, 165: 0, 10000000: 0} {
		if n, e := shop.ClampsAt(s, starts, minute); n != want || e != api.OK {
			t.Errorf("ClampsAt %d: %d, %d, want %d", minute, n, e, want)
		}
	}
	if l, e := shop.Opened(s, starts); !slices.Equal(l, []int{10}) || e != api.OK {
		t.Errorf("Opened: %v, %d", l, e)
	}
}

// P9.5: starts of any kind, also at the ends of their range.
func TestMeasureWrong(t *testing.T) {
	s := presses(3, [2]int{4, 2}, [2]int{4, 3}, [2]int{9, 0})
	starts := []int{10000000, 0, 0, 3, 5, 10000000}
	if n, e := shop.Makespan(s, starts); n != 10000009 || e != api.OK {
		t.Errorf("Makespan: %d, %d", n, e)
	}
	if l, e := shop.Opened(s, starts); !slices.Equal(l, []int{-10000000, 3, 9999995}) || e != api.OK {
		t.Errorf("Opened: %v, %d", l, e)
	}
	for minute, want := range map[int]int{0: 2, 2: 2, 3: 5, 4: 3, 6: 3, 7: 0} {
		if n, e := shop.ClampsAt(s, starts, minute); n != want || e != api.OK {
			t.Errorf("ClampsAt %d: %d, %d, want %d", minute, n, e, want)
		}
	}
	if n, e := shop.MostClamps(s, starts); n != 5 || e != api.OK {
		t.Errorf("MostClamps: %d, %d", n, e)
	}
	starts[1] = 10000000
	if n, e := shop.ClampsAt(s, starts, 10000000); n != 2 || e != api.OK {
		t.Errorf("ClampsAt the last minute: %d, %d", n, e)
	}
}

// P9.5: setups and sharpenings of one machine, in the order of the starts; equal starts in that of the numbers.
func TestMeasureMachine(t *testing.T) {
	s := alone(1, 2, 1, 2)
	s.Machines[0].Life = 2
	for _, x := range []struct {
		starts, sequence    []int
		setups, sharpenings int
	}{
		{[]int{0, 0, 0, 0}, []int{0, 1, 2, 3}, 3, 1},
		{[]int{1, 1, 0, 1}, []int{2, 0, 1, 3}, 1, 1},
		{[]int{4, 3, 2, 1}, []int{3, 2, 1, 0}, 3, 1},
		{[]int{0, 9, 5, 9}, []int{0, 2, 1, 3}, 1, 1},
	} {
		if l, e := shop.Sequence(s, x.starts, 0); !slices.Equal(l, x.sequence) || e != api.OK {
			t.Errorf("Sequence of %v: %v, %d, want %v", x.starts, l, e, x.sequence)
		}
		if n, e := shop.Setups(s, x.starts); n != x.setups || e != api.OK {
			t.Errorf("Setups of %v: %d, %d, want %d", x.starts, n, e, x.setups)
		}
		if n, e := shop.Sharpenings(s, x.starts); n != x.sharpenings || e != api.OK {
			t.Errorf("Sharpenings of %v: %d, %d, want %d", x.starts, n, e, x.sharpenings)
		}
	}
}

// P9.5: a tool is worn by what it does since it was sharpened, that operation included; only more than Life is too much.
func TestSharpenings(t *testing.T) {
	for _, x := range []struct {
		life    int
		minutes []int
		want    int
	}{
		{10, []int{10}, 0},
		{10, []int{5, 5}, 0},
		{10, []int{5, 6}, 1},
		{10, []int{5, 5, 1}, 1},
		{10, []int{10, 10, 10}, 2},
		{10, []int{9, 2, 8, 1}, 2},
		{10, []int{9, 2, 8}, 1},
		{10, []int{6, 6, 4, 6, 4}, 2},
		{1, []int{1, 1, 1, 1}, 3},
		{100000, []int{10000, 10000, 10000}, 0},
	} {
		s := api.Shop{Machines: []api.Machine{machine("m", 0, x.life, 0)}, Operations: operations(len(x.minutes))}
		for n, minutes := range x.minutes {
			s.Operations[n].Machine, s.Operations[n].Minutes = 0, minutes
		}
		if n, e := shop.Sharpenings(s, upTo(len(x.minutes))); n != x.want || e != api.OK {
			t.Errorf("%d %v: %d, %d, want %d", x.life, x.minutes, n, e, x.want)
		}
	}
}

// P9.5: random schedules, right and wrong, by the definitions.
func TestMeasureByDefinition(t *testing.T) {
	random := steadily(5)
	for range 600 {
		s := anyShop(random, 8)
		starts := anyStarts(t, random, s)
		d := placed(s, starts)
		checkMeasures(t, d)
		checkClamps(t, random, d)
		var opened []int
		for _, g := range s.Glues {
			opened = append(opened, starts[g.Press]-starts[g.Spread])
		}
		if l, e := shop.Opened(s, starts); !slices.Equal(l, opened) || e != api.OK {
			t.Fatalf("%v, %v: Opened %v, %d, want %v", s, starts, l, e, opened)
		}
	}
}

// checkMeasures compares the length, the sequences, setups and sharpenings of a schedule with the definitions.
func checkMeasures(t *testing.T, d definition) {
	t.Helper()
	starts := d.list()
	length, setups, sharpenings := 0, 0, 0
	for n, o := range d.Operations {
		length = max(length, starts[n]+o.Minutes)
	}
	for m := range d.Machines {
		sequence := d.sequence(m)
		if l, e := shop.Sequence(d.Shop, starts, m); !slices.Equal(l, sequence) || e != api.OK {
			t.Fatalf("%v, %v: Sequence of %d %v, %d, want %v", d.Shop, starts, m, l, e, sequence)
		}
		for at := range sequence {
			if d.changed(sequence, at) {
				setups++
			}
			if d.sharpened(m, sequence, at) {
				sharpenings++
			}
		}
	}
	if n, e := shop.Makespan(d.Shop, starts); n != length || e != api.OK {
		t.Fatalf("%v, %v: Makespan %d, %d, want %d", d.Shop, starts, n, e, length)
	}
	if n, e := shop.Setups(d.Shop, starts); n != setups || e != api.OK {
		t.Fatalf("%v, %v: Setups %d, %d, want %d", d.Shop, starts, n, e, setups)
	}
	if n, e := shop.Sharpenings(d.Shop, starts); n != sharpenings || e != api.OK {
		t.Fatalf("%v, %v: Sharpenings %d, %d, want %d", d.Shop, starts, n, e, sharpenings)
	}
}

// checkClamps compares the clamps of a schedule with the definition, at one minute and the most of all minutes.
func checkClamps(t *testing.T, random *rand.Rand, d definition) {
	t.Helper()
	starts := d.list()
	most, last := 0, 0
	for n, o := range d.Operations {
		last = max(last, starts[n]+o.Minutes)
	}
	for minute := range last {
		most = max(most, d.clamps(minute))
	}
	minute := random.IntN(last + 1)
	if n, e := shop.ClampsAt(d.Shop, starts, minute); n != d.clamps(minute) || e != api.OK {
		t.Fatalf("%v, %v: ClampsAt %d %d, %d, want %d", d.Shop, starts, minute, n, e, d.clamps(minute))
	}
	if n, e := shop.MostClamps(d.Shop, starts); n != most || e != api.OK {
		t.Fatalf("%v, %v: MostClamps %d, %d, want %d", d.Shop, starts, n, e, most)
	}
}
