package shop_test

import (
	"slices"
	"testing"

	"spokeshave/api"
	"spokeshave/shop"
)

// P9.3: the examples of the chapter, and each rule.
func TestAcceptExample(t *testing.T) {
	for _, x := range []struct {
		starts []int
		number int
		want   api.Errno
	}{
		{[]int{0, 65, 95, 105, 195}, -1, api.OK},
		{[]int{9, 75, 195, 205, 10000000}, -1, api.OK},
		{[]int{0, 65, 95, 116, 206}, 3, api.ErrLate},
		{[]int{0, 65, 95, 115, 205}, -1, api.OK},
		{[]int{0, 64, 95, 105, 195}, 1, api.ErrBusy},
		{[]int{0, 39, 95, 105, 195}, 1, api.ErrOrder},
		{[]int{0, 65, 94, 105, 195}, 2, api.ErrOrder},
		{[]int{0, 65, 95, 104, 195}, 3, api.ErrOrder},
		{[]int{0, 65, 95, 105, 194}, 4, api.ErrOrder},
		{[]int{0, 64, 94, 120, 9}, 1, api.ErrBusy},
		{[]int{0, 0, 95, 105, 195}, 1, api.ErrOrder},
		{[]int{0, 65, 95, 105}, 0, api.ErrShape},
		{[]int{0, 65, 95, 105, 195, 0}, 0, api.ErrShape},
		{nil, 0, api.ErrShape},
		{[]int{0, 65, 95, 105, 10000001}, 0, api.ErrRange},
		{[]int{0, -1, 95, 105, 195}, 0, api.ErrRange},
	} {
		if n, e := shop.Accept(example(), x.starts); n != x.number || e != x.want {
			t.Errorf("%v: %d, %d, want %d, %d", x.starts, n, e, x.number, x.want)
		}
	}
	if n, e := shop.Accept(api.Shop{}, nil); n != -1 || e != api.OK {
		t.Errorf("nothing: %d, %d", n, e)
	}
}

// P9.3: a machine that is not free: the later operation breaks the rule; with equal starts the one with the greater number.
func TestAcceptBusy(t *testing.T) {
	s := alone(1, 1, 2)
	s.Machines[0].Life = 2
	for _, x := range []struct {
		starts []int
		number int
		want   api.Errno
	}{
		{[]int{0, 1, 18}, -1, api.OK}, // a change of 7 and sharpening of 9
		{[]int{0, 1, 17}, 2, api.ErrBusy},
		{[]int{1, 0, 18}, -1, api.OK},
		{[]int{18, 8, 0}, -1, api.OK}, // a change, then sharpening
		{[]int{18, 7, 0}, 1, api.ErrBusy},
		{[]int{17, 8, 0}, 0, api.ErrBusy},
		{[]int{0, 25, 8}, -1, api.OK}, // a change, then both
		{[]int{0, 25, 7}, 2, api.ErrBusy},
		{[]int{0, 24, 8}, 1, api.ErrBusy},
		{[]int{0, 0, 18}, 1, api.ErrBusy},
		{[]int{9, 9, 9}, 1, api.ErrBusy},
		{[]int{9, 0, 9}, 2, api.ErrBusy},
	} {
		if n, e := shop.Accept(s, x.starts); n != x.number || e != x.want {
			t.Errorf("%v: %d, %d, want %d, %d", x.starts, n, e, x.number, x.want)
		}
	}
	// Only operations that follow each other are looked at: 1 comes behind 2, which is the one that is too early.
	s.Machines[0] = machine("m", 0, 1000, 0)
	s.Operations[0].Minutes = 100
	if n, e := shop.Accept(s, []int{0, 30, 10}); n != 2 || e != api.ErrBusy {
		t.Errorf("a long one: %d, %d", n, e)
	}
	// Operations on no machine, or on different ones, do not wait for each other.
	s.Machines = append(s.Machines, machine("n", 9, 9, 9))
	s.Operations[1].Machine, s.Operations[2].Machine = 1, -1
	if n, e := shop.Accept(s, []int{0, 0, 0}); n != -1 || e != api.OK {
		t.Errorf("different machines: %d, %d", n, e)
	}
}

// P9.3: too few clamps.
func TestAcceptClamps(t *testing.T) {
	s := presses(3, [2]int{4, 2}, [2]int{4, 2}, [2]int{4, 0}, [2]int{1, 1})
	for _, x := range []struct {
		presses [4]int
		number  int
		want    api.Errno
	}{
		{[4]int{1, 5, 1, 1}, -1, api.OK},
		{[4]int{5, 1, 1, 1}, -1, api.OK},
		{[4]int{1, 5, 5, 5}, -1, api.OK},
		{[4]int{1, 4, 1, 1}, 3, api.ErrStock},
		{[4]int{4, 1, 1, 1}, 1, api.ErrStock},
		{[4]int{1, 1, 9, 9}, 1, api.ErrStock},
		{[4]int{2, 1, 2, 1}, 1, api.ErrStock},
		{[4]int{1, 2, 2, 1}, 3, api.ErrStock},
	} {
		if n, e := shop.Accept(s, spreadBefore(x.presses[:])); n != x.number || e != x.want {
			t.Errorf("%v: %d, %d, want %d, %d", x.presses, n, e, x.number, x.want)
		}
	}
}

// spreadBefore returns the starts of a shop of presses if each Press starts when its Spread has ended.
func spreadBefore(presses []int) []int {
	var starts []int
	for _, press := range presses {
		starts = append(starts, press-1, press)
	}
	return starts
}

// P9.3: a Press without clamps breaks the rule, too, if those that run at its start use too many.
func TestAcceptNoClamps(t *testing.T) {
	s := presses(3, [2]int{4, 0}, [2]int{4, 2}, [2]int{4, 2})
	for start, number := range map[int]int{3: 5, 6: 5, 7: 1, 8: 1, 9: 5} {
		if n, e := shop.Accept(s, spreadBefore([]int{start, 5, 7})); n != number || e != api.ErrStock {
			t.Errorf("at %d: %d, %d, want %d", start, n, e, number)
		}
	}
	if n, e := shop.Accept(s, spreadBefore([]int{7, 5, 9})); n != -1 || e != api.OK {
		t.Errorf("with enough of them: %d, %d", n, e)
	}
}

// P9.3: of an operation that breaks several rules the first one is told, and of several operations the first one.
func TestAcceptFirst(t *testing.T) {
	s := presses(1, [2]int{9, 1}, [2]int{9, 1})
	s.Machines = []api.Machine{machine("m", 0, 99, 0)}
	s.Operations[1].Machine, s.Operations[3].Machine = 0, 0
	for _, x := range []struct {
		starts []int
		number int
		want   api.Errno
	}{
		{[]int{0, 1, 9, 10}, -1, api.OK},
		{[]int{0, 1, 5, 5}, 3, api.ErrOrder}, // and the machine, and the clamps
		{[]int{0, 1, 0, 9}, 3, api.ErrBusy},  // and the open time, and the clamps
		{[]int{0, 1, 0, 10}, 3, api.ErrLate},
		{[]int{0, 6, 9, 15}, 1, api.ErrLate},
		{[]int{0, 15, 0, 15}, 1, api.ErrLate},
		{[]int{9, 9, 9, 9}, 1, api.ErrOrder},
	} {
		if n, e := shop.Accept(s, x.starts); n != x.number || e != x.want {
			t.Errorf("%v: %d, %d, want %d, %d", x.starts, n, e, x.number, x.want)
		}
	}
	s.Operations[3].Machine = -1
	if n, e := shop.Accept(s, []int{0, 1, 0, 9}); n != 3 || e != api.ErrLate { // and the clamps
		t.Errorf("on no machine: %d, %d", n, e)
	}
}

// P9.3: random schedules by the definition.
func TestAcceptByDefinition(t *testing.T) {
	random := steadily(3)
	seen := map[api.Errno]int{}
	for range 8000 {
		s := anyShop(random, 8)
		starts := anyStarts(t, random, s)
		number, want := placed(s, starts).firstBroken()
		if n, e := shop.Accept(s, starts); n != number || e != want {
			t.Fatalf("%v, %v: %d, %d, want %d, %d", s, starts, n, e, number, want)
		}
		if want == api.OK && !placed(s, starts).isRight() {
			t.Fatalf("%v, %v: right at each start, but not at each minute", s, starts)
		}
		seen[want]++
	}
	for _, e := range []api.Errno{api.OK, api.ErrOrder, api.ErrBusy, api.ErrLate, api.ErrStock} {
		if seen[e] < 20 {
			t.Errorf("error %d was seen %d times only", e, seen[e])
		}
	}
}

// P9.7: delays of the example.
func TestDelay(t *testing.T) {
	for _, x := range []struct {
		starts        []int
		operation, by int
		want          []int
		e             api.Errno
	}{
		{exampleStarts(), 0, 5, []int{5, 70, 100, 110, 200}, api.OK},
		{exampleStarts(), 2, 5, []int{0, 65, 100, 110, 200}, api.OK},
		{exampleStarts(), 3, 10, []int{0, 65, 95, 115, 205}, api.OK},
		{exampleStarts(), 3, 11, nil, api.ErrLate},
		{exampleStarts(), 3, 0, exampleStarts(), api.OK},
		{exampleStarts(), 4, 100000, []int{0, 65, 95, 105, 100195}, api.OK},
		{exampleStarts(), 4, 100001, nil, api.ErrRange},
		{exampleStarts(), 4, -1, nil, api.ErrRange},
		{exampleStarts(), 5, -1, nil, api.ErrMissing},
		{exampleStarts(), -1, 0, nil, api.ErrMissing},
		{[]int{0, 64, 95, 105, 195}, 0, 0, nil, api.ErrBusy},
		{[]int{0, 64, 95, 105, 195}, 1, 1, nil, api.ErrBusy}, // it would be right behind the delay
		{[]int{0, 64, 95, 105, 195}, 0, -1, nil, api.ErrRange},
		{[]int{0, 65, 95, 105, 9999999}, 4, 1, []int{0, 65, 95, 105, 10000000}, api.OK},
		{[]int{0, 65, 95, 105, 9999999}, 4, 2, nil, api.ErrRange},
		{[]int{0, 65, 95, 105, 9999999}, 0, 2, nil, api.ErrRange},
		{[]int{0, 65, 95, 105}, 9, -1, nil, api.ErrShape},
	} {
		if l, e := shop.Delay(example(), x.starts, x.operation, x.by); !slices.Equal(l, x.want) || e != x.e {
			t.Errorf("%v, %d, %d: %v, %d, want %v, %d", x.starts, x.operation, x.by, l, e, x.want, x.e)
		}
	}
}

// P9.7: all operations with the same start are delayed, whatever their numbers, and those that start earlier are not.
func TestDelayEqual(t *testing.T) {
	s := api.Shop{Operations: operations(4)}
	if l, e := shop.Delay(s, []int{5, 5, 4, 6}, 1, 10); !slices.Equal(l, []int{15, 15, 4, 16}) || e != api.OK {
		t.Errorf("%v, %d", l, e)
	}
}

// P9.7: delays of random schedules by the definition.
func TestDelayByDefinition(t *testing.T) {
	random := steadily(7)
	late := 0
	for range 600 {
		s := anyShop(random, 8)
		if len(s.Operations) == 0 {
			continue
		}
		starts := anyStarts(t, random, s)
		operation, by := random.IntN(len(starts)), random.IntN(6)
		later := slices.Clone(starts)
		for n := range later {
			if starts[n] >= starts[operation] {
				later[n] = starts[n] + by
			}
		}
		_, want := placed(s, starts).firstBroken()
		if want == api.OK {
			_, want = placed(s, later).firstBroken()
		}
		l, e := shop.Delay(s, starts, operation, by)
		if e != want || e == api.OK && !slices.Equal(l, later) || e != api.OK && len(l) != 0 {
			t.Fatalf("%v, %v, %d, %d: %v, %d, want %v, %d", s, starts, operation, by, l, e, later, want)
		}
		if _, before := shop.Accept(s, starts); before == api.OK && e == api.ErrLate {
			late++
		}
	}
	if late < 5 {
		t.Errorf("only %d came too late", late)
	}
}
