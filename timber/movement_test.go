package timber_test

import (
	"math"
	"math/big"
	"testing"

	"spokeshave/api"
	"spokeshave/timber"
)

// P2.3: the rate along each axis, and wrong numbers.
func TestRate(t *testing.T) {
	for cut, rates := range [2][3]int{{1, 300, 150}, {1, 150, 300}} {
		for axis, want := range rates {
			if r, e := timber.Rate(oak(), cut, axis); r != want || e != api.OK {
				t.Errorf("cut %d, axis %d: %d, %d, want %d", cut, axis, r, e, want)
			}
		}
	}
	for _, x := range [][2]int{{-1, 0}, {2, 0}, {0, -1}, {1, 3}, {math.MinInt, math.MaxInt}} {
		if r, e := timber.Rate(oak(), x[0], x[1]); r != 0 || e != api.ErrRange {
			t.Errorf("%v: %d, %d", x, r, e)
		}
	}
	if r, e := timber.Rate(api.Species{}, 2, 3); r != 0 || e != api.ErrName {
		t.Errorf("species ahead: %d, %d", r, e)
	}
}

// exactly is the definition of the exact size.
func exactly(size, rate, from, to int) *big.Rat {
	rise := big.NewRat(int64(rate)*int64(min(to, 280)-min(from, 280)), 1000000)
	return rise.Mul(rise.Add(rise, big.NewRat(1, 1)), big.NewRat(int64(size), 1))
}

// around is the greatest whole number that is at most low, and the least one that is at least high.
func around(low, high *big.Rat) api.Interval {
	floor := func(r *big.Rat) int {
		q, m := new(big.Int).DivMod(r.Num(), r.Denom(), new(big.Int))
		_ = m
		return int(q.Int64())
	}
	return api.Interval{Lo: floor(low), Hi: -floor(new(big.Rat).Neg(high))}
}

// P2.3: the examples of the chapter.
func TestMovementExamples(t *testing.T) {
	for _, x := range []struct {
		size, rate, from, to int
		want                 api.Interval
		exact                api.Frac
	}{
		{10000, 300, 80, 180, api.Interval{Lo: 10300, Hi: 10300}, api.Frac{Num: 10300, Den: 1}},
		{10000, 300, 80, 300, api.Interval{Lo: 10600, Hi: 10600}, api.Frac{Num: 10600, Den: 1}},
		{2000, 150, 80, 180, api.Interval{Lo: 2030, Hi: 2030}, api.Frac{Num: 2030, Den: 1}},
		{101, 300, 80, 81, api.Interval{Lo: 101, Hi: 102}, api.Frac{Num: 1010303, Den: 10000}},
		{10000, 300, 180, 80, api.Interval{Lo: 9700, Hi: 9700}, api.Frac{Num: 9700, Den: 1}},
		{101, 300, 81, 80, api.Interval{Lo: 100, Hi: 101}, api.Frac{Num: 1009697, Den: 10000}},
		{0, 2000, 0, 280, api.Interval{}, api.Frac{Den: 1}},
		{600000, 2000, 0, 400, api.Interval{Lo: 936000, Hi: 936000}, api.Frac{Num: 936000, Den: 1}},
		{600000, 2000, 400, 0, api.Interval{Lo: 264000, Hi: 264000}, api.Frac{Num: 264000, Den: 1}},
		{1, 1, 279, 280, api.Interval{Lo: 1, Hi: 2}, api.Frac{Num: 1000001, Den: 1000000}},
		{1, 1, 280, 279, api.Interval{Lo: 0, Hi: 1}, api.Frac{Num: 999999, Den: 1000000}},
		{7, 1, 281, 400, api.Interval{Lo: 7, Hi: 7}, api.Frac{Num: 7, Den: 1}},
		{7, 1, 279, 400, api.Interval{Lo: 7, Hi: 8}, api.Frac{Num: 7000007, Den: 1000000}},
	} {
		m := api.Interval{Lo: x.from, Hi: x.to}
		if r, e := timber.At(x.size, x.rate, m); r != x.want || e != api.OK {
			t.Errorf("At %v: %v, %d", x, r, e)
		}
		if f, e := timber.Exact(x.size, x.rate, m); f != x.exact || e != api.OK {
			t.Errorf("Exact %v: %v, %d", x, f, e)
		}
	}
	if r, e := timber.Over(2000, 150, 80, api.Interval{Lo: 60, Hi: 120}); r != (api.Interval{Lo: 1994, Hi: 2012}) || e != api.OK {
		t.Errorf("Over: %v, %d", r, e)
	}
}

// P2.3: exact sizes and their intervals are those of the definition.
func TestMovementByDefinition(t *testing.T) {
	random := steadily(3)
	for range 3000 {
		size, rate, from := random.IntN(600001), random.IntN(2001), random.IntN(401)
		low := random.IntN(401)
		high := low + random.IntN(401-low)
		if random.IntN(4) == 0 {
			size = random.IntN(30)
		}
		least, most := exactly(size, rate, from, low), exactly(size, rate, from, high)
		f, e := timber.Exact(size, rate, api.Interval{Lo: from, Hi: low})
		if e != api.OK || int64(f.Num) != least.Num().Int64() || int64(f.Den) != least.Denom().Int64() {
			t.Fatalf("Exact %d, %d, %d, %d: %v, %d", size, rate, from, low, f, e)
		}
		at, e := timber.At(size, rate, api.Interval{Lo: from, Hi: low})
		if e != api.OK || at != around(least, least) {
			t.Fatalf("At %d, %d, %d, %d: %v, %d", size, rate, from, low, at, e)
		}
		over, e := timber.Over(size, rate, from, api.Interval{Lo: low, Hi: high})
		if e != api.OK || over != around(least, most) {
			t.Fatalf("Over %d, %d, %d, %d to %d: %v, %d", size, rate, from, low, high, over, e)
		}
	}
}

// P2.9: Over contains what is between, and its ends are those of the ends; At never falls, and stays the same from Saturation on.
func TestMovementConsequences(t *testing.T) {
	random := steadily(9)
	for range 100 {
		size, rate, from := random.IntN(5000), random.IntN(2001), random.IntN(401)
		m := api.Interval{Lo: random.IntN(201), Hi: 200 + random.IntN(201)}
		over, _ := timber.Over(size, rate, from, m)
		var last api.Interval
		for now := m.Lo; now <= m.Hi; now++ {
			at, e := timber.At(size, rate, api.Interval{Lo: from, Hi: now})
			if e != api.OK || at.Lo < over.Lo || at.Hi > over.Hi || at.Lo < last.Lo || at.Hi < last.Hi {
				t.Fatalf("%d, %d, %d at %d: %v behind %v, over %v", size, rate, from, now, at, last, over)
			}
			if now == m.Lo && at.Lo != over.Lo || now == m.Hi && at.Hi != over.Hi || now > 280 && at != last && now > m.Lo {
				t.Fatalf("%d, %d, %d at %d: %v behind %v, over %v", size, rate, from, now, at, last, over)
			}
			last = at
		}
	}
	there, _ := timber.At(10000, 300, api.Interval{Lo: 80, Hi: 180})
	if back, _ := timber.At(there.Lo, 300, api.Interval{Lo: 180, Hi: 80}); back.Hi == 10000 {
		t.Errorf("there and back: %v, but each rate is of the size at hand", back)
	}
}

// P2.3: wrong numbers of movements.
func TestMovementErrors(t *testing.T) {
	good := api.Interval{Lo: 80, Hi: 180}
	for _, x := range []struct {
		size, rate, from int
		m                api.Interval
		at, over         api.Errno
	}{
		{0, 0, 0, api.Interval{}, api.OK, api.OK},
		{600000, 2000, 400, api.Interval{Lo: 400, Hi: 400}, api.OK, api.OK},
		{-1, 300, 80, good, api.ErrRange, api.ErrRange},
		{600001, 300, 80, good, api.ErrRange, api.ErrRange},
		{100, -1, 80, good, api.ErrRange, api.ErrRange},
		{100, 2001, 80, good, api.ErrRange, api.ErrRange},
		{100, 300, -1, good, api.OK, api.ErrRange},
		{100, 300, 401, good, api.OK, api.ErrRange},
		{100, 300, 80, api.Interval{Lo: -1, Hi: 5}, api.ErrRange, api.ErrRange},
		{100, 300, 80, api.Interval{Lo: 5, Hi: 401}, api.ErrRange, api.ErrRange},
		{100, 300, 80, api.Interval{Lo: 401, Hi: 5}, api.ErrRange, api.ErrRange},
		{100, 300, 80, api.Interval{Lo: 5, Hi: -1}, api.ErrRange, api.ErrRange},
		{100, 300, 80, api.Interval{Lo: 6, Hi: 5}, api.OK, api.ErrOrder},
		{100, 2001, 80, api.Interval{Lo: 6, Hi: 5}, api.ErrRange, api.ErrRange},
		{100, 300, 401, api.Interval{Lo: 6, Hi: 5}, api.OK, api.ErrRange},
		{100, 300, 80, api.Interval{Lo: 5, Hi: 5}, api.OK, api.OK},
	} {
		if f, e := timber.Exact(x.size, x.rate, x.m); e != x.at || e != api.OK && f != (api.Frac{}) {
			t.Errorf("Exact %v: %v, %d", x, f, e)
		}
		if r, e := timber.At(x.size, x.rate, x.m); e != x.at || e != api.OK && r != (api.Interval{}) {
			t.Errorf("At %v: %v, %d", x, r, e)
		}
		if r, e := timber.Over(x.size, x.rate, x.from, x.m); e != x.over || e != api.OK && r != (api.Interval{}) {
			t.Errorf("Over %v: %v, %d", x, r, e)
		}
	}
}

// P2.3: the sizes of a board move from its own moisture on, across the rings or along them.
func TestSizes(t *testing.T) {
	b := api.Board{Name: "one", Species: "oak", Length: 100000, Width: 10000, Thick: 2000, Moisture: 80}
	for _, x := range []struct {
		cut, moisture int
		want          [3]api.Interval
	}{
		{0, 80, [3]api.Interval{{Lo: 100000, Hi: 100000}, {Lo: 10000, Hi: 10000}, {Lo: 2000, Hi: 2000}}},
		{0, 180, [3]api.Interval{{Lo: 100010, Hi: 100010}, {Lo: 10300, Hi: 10300}, {Lo: 2030, Hi: 2030}}},
		{1, 180, [3]api.Interval{{Lo: 100010, Hi: 100010}, {Lo: 10150, Hi: 10150}, {Lo: 2060, Hi: 2060}}},
		{0, 75, [3]api.Interval{{Lo: 99999, Hi: 100000}, {Lo: 9985, Hi: 9985}, {Lo: 1998, Hi: 1999}}},
		{0, 400, [3]api.Interval{{Lo: 100020, Hi: 100020}, {Lo: 10600, Hi: 10600}, {Lo: 2060, Hi: 2060}}},
		{0, 0, [3]api.Interval{{Lo: 99992, Hi: 99992}, {Lo: 9760, Hi: 9760}, {Lo: 1976, Hi: 1976}}},
	} {
		b.Cut = x.cut
		if s, e := timber.Sizes(woods(), b, x.moisture); s != x.want || e != api.OK {
			t.Errorf("cut %d at %d: %v, %d, want %v", x.cut, x.moisture, s, e, x.want)
		}
	}
	b.Species = "ash"
	b.Cut = 0
	if s, e := timber.Sizes(woods(), b, 180); s != [3]api.Interval{{Lo: 100020, Hi: 100020}, {Lo: 10250, Hi: 10250}, {Lo: 2032, Hi: 2032}} || e != api.OK {
		t.Errorf("ash: %v, %d", s, e)
	}
	for _, moisture := range []int{-1, 401, math.MinInt} {
		if s, e := timber.Sizes(woods(), b, moisture); s != [3]api.Interval{} || e != api.ErrRange {
			t.Errorf("at %d: %v, %d", moisture, s, e)
		}
		if _, e := timber.Sizes(nil, b, moisture); e != api.ErrMissing {
			t.Errorf("board ahead: %d", e)
		}
	}
}

// P2.9: sizes never fall if the moisture rises, and stay the same from Saturation on.
func TestSizesRise(t *testing.T) {
	random := steadily(29)
	for range 20 {
		b := api.Board{Name: "one", Species: woods()[random.IntN(3)].Name, Length: 1 + random.IntN(600000), Width: 1 + random.IntN(9000), Thick: 1 + random.IntN(900), Cut: random.IntN(2), Moisture: random.IntN(401)}
		var last [3]api.Interval
		for moisture := range 401 {
			s, e := timber.Sizes(woods(), b, moisture)
			for axis := range s {
				if e != api.OK || s[axis].Lo < last[axis].Lo || s[axis].Hi < last[axis].Hi || moisture > 280 && s != last {
					t.Fatalf("%v at %d: %v behind %v, %d", b, moisture, s, last, e)
				}
			}
			last = s
		}
	}
}
