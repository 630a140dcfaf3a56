package timber_test

import (
	"math"
	"math/big"
	"slices"
	"testing"

	"spokeshave/api"
	"spokeshave/timber"
)

func table() []api.Knot {
	return []api.Knot{{At: 0, Value: 0}, {At: 500, Value: 90}, {At: 1000, Value: 280}}
}

// P2.6: the values of tables, also of one that begins late, ends early or falls.
func TestEquilibrium(t *testing.T) {
	inner := []api.Knot{{At: 300, Value: 60}, {At: 303, Value: 70}, {At: 310, Value: 61}}
	for _, x := range []struct {
		t              []api.Knot
		humidity, want int
	}{
		{table(), 600, 128}, {table(), 250, 45}, {table(), 0, 0}, {table(), 500, 90}, {table(), 1000, 280}, {table(), 999, 279}, {table(), 1, 0}, {table(), 501, 90},
		{inner, 0, 60}, {inner, 299, 60}, {inner, 300, 60}, {inner, 301, 63}, {inner, 302, 66}, {inner, 303, 70},
		{inner, 304, 68}, {inner, 305, 67}, {inner, 309, 62}, {inner, 310, 61}, {inner, 311, 61}, {inner, 1000, 61},
		{[]api.Knot{{At: 400, Value: 77}}, 0, 77}, {[]api.Knot{{At: 400, Value: 77}}, 400, 77}, {[]api.Knot{{At: 400, Value: 77}}, 1000, 77},
	} {
		if v, e := timber.Equilibrium(x.t, x.humidity); v != x.want || e != api.OK {
			t.Errorf("%v at %d: %d, %d, want %d", x.t, x.humidity, v, e, x.want)
		}
	}
}

// P2.6: the straight lines of a table, rounded down.
func TestEquilibriumByDefinition(t *testing.T) {
	random := steadily(6)
	for range 500 {
		at := random.Perm(1001)[:2+random.IntN(4)]
		slices.Sort(at)
		var l []api.Knot
		for _, a := range at {
			l = append(l, api.Knot{At: a, Value: random.IntN(401)})
		}
		i := random.IntN(len(l) - 1)
		a, b := l[i], l[i+1]
		humidity := a.At + random.IntN(b.At-a.At+1)
		line := big.NewRat(int64((b.Value-a.Value)*(humidity-a.At)), int64(b.At-a.At))
		line.Add(line, big.NewRat(int64(a.Value), 1))
		if v, e := timber.Equilibrium(l, humidity); v != around(line, line).Lo || e != api.OK {
			t.Fatalf("%v at %d: %d, %d, want %v", l, humidity, v, e, line)
		}
	}
}

// P2.6: which error of a table comes first.
func TestEquilibriumErrors(t *testing.T) {
	var fifty []api.Knot
	for i := range 50 {
		fifty = append(fifty, api.Knot{At: i, Value: i})
	}
	for name, x := range map[string]struct {
		t        []api.Knot
		humidity int
		want     api.Errno
	}{
		"none":                     {nil, 5000, api.ErrNone},
		"50 knots":                 {fifty, 5, api.OK},
		"51 knots":                 {append(slices.Clone(fifty), api.Knot{At: 50}), 5, api.ErrLarge},
		"51 wrong knots":           {make([]api.Knot, 51), -1, api.ErrLarge},
		"At below":                 {[]api.Knot{{At: -1}}, 5, api.ErrRange},
		"At above":                 {[]api.Knot{{At: 1001}}, 5, api.ErrRange},
		"Value below":              {[]api.Knot{{Value: -1}}, 5, api.ErrRange},
		"Value above":              {[]api.Knot{{Value: 401}}, 5, api.ErrRange},
		"ends of ranges":           {[]api.Knot{{}, {At: 1000, Value: 400}}, 5, api.OK},
		"the same At":              {[]api.Knot{{At: 5}, {At: 5, Value: 1}}, 5, api.ErrOrder},
		"twice 0":                  {[]api.Knot{{}, {}}, 5, api.ErrOrder},
		"falling At":               {[]api.Knot{{At: 5}, {At: 4}}, 5, api.ErrOrder},
		"range ahead of order":     {[]api.Knot{{At: 5}, {At: 5, Value: 401}}, 5, api.ErrRange},
		"order ahead of the next":  {[]api.Knot{{At: 5}, {At: 5}, {At: -1}}, 5, api.ErrOrder},
		"range ahead of the next":  {[]api.Knot{{At: 5}, {At: 1001}, {At: 4}}, 5, api.ErrRange},
		"order of the last two":    {[]api.Knot{{At: 5}, {At: 9}, {At: 7}}, 5, api.ErrOrder},
		"order ahead of humidity":  {[]api.Knot{{At: 5}, {At: 5}}, 1001, api.ErrOrder},
		"humidity below":           {table(), -1, api.ErrRange},
		"humidity above":           {table(), 1001, api.ErrRange},
		"humidity far below":       {table(), math.MinInt, api.ErrRange},
		"wrong knot ahead of last": {[]api.Knot{{At: -1}, {At: 7, Value: 3}}, 1001, api.ErrRange},
	} {
		v, e := timber.Equilibrium(x.t, x.humidity)
		if e != x.want || e != api.OK && v != 0 {
			t.Errorf("%s: %d, %d, want %d", name, v, e, x.want)
		}
	}
}

// P2.6: the example of the chapter, both directions, and a rate above the difference.
func TestDry(t *testing.T) {
	for _, x := range []struct {
		moisture, target, rate int
		want                   []int
	}{
		{200, 100, 10, []int{200, 190, 181, 173}},
		{100, 200, 10, []int{100, 110, 119, 127}},
		{103, 100, 10, []int{103, 102, 101, 100, 100}},
		{97, 100, 100, []int{97, 98, 99, 100, 100}},
		{400, 0, 1, []int{400, 0, 0}},
		{0, 400, 1, []int{0, 400, 400}},
		{105, 100, 2, []int{105, 103, 102, 101, 100}},
		{95, 100, 2, []int{95, 97, 98, 99, 100}},
		{100, 100, 3, []int{100, 100}},
	} {
		for days, want := range x.want {
			if m, e := timber.Dry(x.moisture, x.target, x.rate, days); m != want || e != api.OK {
				t.Errorf("%v after %d days: %d, %d, want %d", x, days, m, e, want)
			}
		}
	}
	for _, near := range []struct{ near, want int }{{80, 3}, {81, 2}, {90, 1}, {89, 2}, {100, 0}, {99, 1}, {400, 0}} {
		if d, e := timber.DaysTo(200, 100, 10, near.near); d != near.want || e != api.OK {
			t.Errorf("near %d: %d, %d, want %d", near.near, d, e, near.want)
		}
	}
	if d, e := timber.DaysTo(400, 0, 100, 0); d != 282 || e != api.OK {
		t.Errorf("to the end: %d, %d", d, e)
	}
	if m, e := timber.Dry(400, 0, 100, 10000); m != 0 || e != api.OK {
		t.Errorf("after 10000 days: %d, %d", m, e)
	}
}

// P2.11: dry day by day; the moisture stays between its beginning and the target; DaysTo is the first day near it.
func TestDryConsequences(t *testing.T) {
	random := steadily(11)
	for range 400 {
		moisture, target, rate, near := random.IntN(401), random.IntN(401), 1+random.IntN(100), random.IntN(1+random.IntN(60))
		first := -1
		for days, now := 0, moisture; days < 400; days++ {
			m, e := timber.Dry(moisture, target, rate, days)
			if m != now || e != api.OK || m < min(moisture, target) || m > max(moisture, target) {
				t.Fatalf("%d, %d, %d after %d days: %d, %d, want %d", moisture, target, rate, days, m, e, now)
			}
			if first < 0 && max(now-target, target-now) <= near {
				first = days
			}
			next, _ := timber.Dry(now, target, rate, 1)
			step := (target - now) / rate
			if step == 0 && now < target {
				step = 1
			} else if step == 0 && now > target {
				step = -1
			}
			if next != now+step {
				t.Fatalf("%d to %d at %d: %d, want %d", now, target, rate, next, now+step)
			}
			now = next
		}
		if d, e := timber.DaysTo(moisture, target, rate, near); d != first || e != api.OK {
			t.Fatalf("%d, %d, %d, near %d: %d, %d, want %d", moisture, target, rate, near, d, e, first)
		}
	}
}

// P2.6: wrong numbers of drying.
func TestDryErrors(t *testing.T) {
	good := [4]int{200, 100, 10, 3}
	for i, ends := range [4][2]int{{0, 400}, {0, 400}, {1, 100}, {0, 10000}} {
		for n, want := range map[int]api.Errno{
			ends[0] - 1: api.ErrRange, ends[0]: api.OK, ends[1]: api.OK, ends[1] + 1: api.ErrRange, math.MinInt: api.ErrRange, math.MaxInt: api.ErrRange,
		} {
			g := good
			g[i] = n
			if m, e := timber.Dry(g[0], g[1], g[2], g[3]); e != want || e != api.OK && m != 0 {
				t.Errorf("Dry %v: %d, %d, want %d", g, m, e, want)
			}
			if i == 3 {
				continue
			}
			if d, e := timber.DaysTo(g[0], g[1], g[2], 3); e != want || e != api.OK && d != 0 {
				t.Errorf("DaysTo %v: %d, %d, want %d", g, d, e, want)
			}
		}
	}
	for near, want := range map[int]api.Errno{-1: api.ErrRange, 0: api.OK, 400: api.OK, 401: api.ErrRange, math.MinInt: api.ErrRange, math.MaxInt: api.ErrRange} {
		if d, e := timber.DaysTo(200, 100, 10, near); e != want || e != api.OK && d != 0 {
			t.Errorf("DaysTo near %d: %d, %d, want %d", near, d, e, want)
		}
	}
}
