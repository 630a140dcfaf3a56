package structure_test

import (
	"math/big"
	"slices"
	"testing"

	"spokeshave/api"
	"spokeshave/structure"
)

// P7.4: weights are rounded away from 0.
func TestHeavier(t *testing.T) {
	l := api.Burden{Points: [][2]int{{5, 10}, {2000, -10}, {0, 0}, {5, 3}, {7, -3}, {9, 1}, {9, -1}, {1, 1600}}, Spread: -101}
	for permille, want := range map[int]api.Burden{
		1000: l,
		1001: {Points: [][2]int{{5, 11}, {2000, -11}, {0, 0}, {5, 4}, {7, -4}, {9, 2}, {9, -2}, {1, 1602}}, Spread: -102},
		1100: {Points: [][2]int{{5, 11}, {2000, -11}, {0, 0}, {5, 4}, {7, -4}, {9, 2}, {9, -2}, {1, 1760}}, Spread: -112},
		1250: {Points: [][2]int{{5, 13}, {2000, -13}, {0, 0}, {5, 4}, {7, -4}, {9, 2}, {9, -2}, {1, 2000}}, Spread: -127},
	} {
		got, e := structure.Heavier(l, permille)
		if e != api.OK || !slices.Equal(got.Points, want.Points) || got.Spread != want.Spread {
			t.Errorf("%d: %v, %d, want %v", permille, got, e, want)
		}
	}
}

// P7.4: the result is compared with exact numbers, and refused if it is too large.
func TestHeavierExactly(t *testing.T) {
	r := seeded()
	for range 3000 {
		l := randomBurden(r, api.Beam{Span: 2000})
		permille := between(r, 1000, 1000+r.IntN(4001))
		want, large := api.Burden{Spread: multipliedBy(l.Spread, permille)}, false
		for _, p := range l.Points {
			newtons := multipliedBy(p[1], permille)
			want.Points = append(want.Points, [2]int{p[0], newtons})
			large = large || max(newtons, -newtons) > 2000
		}
		large = large || max(want.Spread, -want.Spread) > 20000
		got, e := structure.Heavier(l, permille)
		switch {
		case large && (e != api.ErrLarge || len(got.Points) > 0 || got.Spread != 0):
			t.Fatalf("%v by %d: %v, %d, want ErrLarge", l, permille, got, e)
		case !large && (e != api.OK || !slices.Equal(got.Points, want.Points) || got.Spread != want.Spread):
			t.Fatalf("%v by %d: %v, %d, want %v", l, permille, got, e, want)
		}
	}
}

// multipliedBy returns a weight multiplied by thousandths, rounded away from 0.
func multipliedBy(newtons, permille int) int {
	exact := big.NewRat(int64(newtons*permille), 1000)
	if newtons < 0 {
		return roundedDown(exact)
	}
	return -roundedDown(new(big.Rat).Neg(exact))
}

// P7.4: a weight of the result at its limit is right, one beyond is too large.
func TestHeavierAtLimits(t *testing.T) {
	for _, x := range []struct {
		l        api.Burden
		permille int
		want     api.Errno
	}{
		{weightAt(1, 400), 5000, api.OK}, {weightAt(1, -400), 5000, api.OK}, {api.Burden{Spread: 4000}, 5000, api.OK}, {api.Burden{Spread: -4000}, 5000, api.OK},
		{weightAt(1, 401), 5000, api.ErrLarge}, {weightAt(1, -401), 5000, api.ErrLarge}, {api.Burden{Spread: 4001}, 5000, api.ErrLarge}, {api.Burden{Spread: -4001}, 5000, api.ErrLarge},
		{weightAt(1, 2000), 1000, api.OK}, {weightAt(1, 2000), 1001, api.ErrLarge}, {weightAt(2000, 1), 1001, api.OK},
		{api.Burden{}, 5000, api.OK}, {api.Burden{Points: [][2]int{{1, 2}, {1, -2000}}}, 1001, api.ErrLarge},
	} {
		if _, e := structure.Heavier(x.l, x.permille); e != x.want {
			t.Errorf("%v by %d: %d, want %d", x.l, x.permille, e, x.want)
		}
	}
}

// P7.4: the least and the greatest moment of all burdens whose weights are at an end of their ranges; others lie between these, since moments grow evenly with weights.
func TestMomentRange(t *testing.T) {
	r := seeded()
	for range 400 {
		b := randomBeam(r, 2000)
		low, high := randomRange(r, b)
		x := between(r, 0, b.Span)
		var least, most *big.Rat
		for choice := range 1 << (len(low.Points) + 1) {
			moment := momentBy(b, chosen(low, high, choice), x)
			if least == nil || moment.Cmp(least) < 0 {
				least = moment
			}
			if most == nil || moment.Cmp(most) > 0 {
				most = moment
			}
		}
		f, g, e := structure.MomentRange(b, low, high, x)
		checkFrac(t, "least moment", f, e, least)
		checkFrac(t, "greatest moment", g, e, most)
	}
}

// randomRange returns two burdens between which others are.
func randomRange(r interface{ IntN(n int) int }, b api.Beam) (api.Burden, api.Burden) {
	pair := func(size int) (int, int) {
		x, y := r.IntN(2*size+1)-size, r.IntN(2*size+1)-size
		return min(x, y), max(x, y)
	}
	var low, high api.Burden
	low.Spread, high.Spread = pair(20000)
	for range r.IntN(6) {
		at := r.IntN(b.Span + 1)
		x, y := pair(2000)
		low.Points, high.Points = append(low.Points, [2]int{at, x}), append(high.Points, [2]int{at, y})
	}
	return low, high
}

// chosen returns a burden with the weights of one or the other burden, as the bits of a choice say.
func chosen(low, high api.Burden, choice int) api.Burden {
	l := api.Burden{Points: slices.Clone(low.Points), Spread: low.Spread}
	for i := range l.Points {
		if choice>>i&1 == 1 {
			l.Points[i] = high.Points[i]
		}
	}
	if choice>>len(l.Points)&1 == 1 {
		l.Spread = high.Spread
	}
	return l
}

// P7.4: which burdens make a range.
func TestMomentRangeErrors(t *testing.T) {
	at := func(spread int, points ...[2]int) api.Burden { return api.Burden{Points: points, Spread: spread} }
	for _, x := range []struct {
		low, high api.Burden
		want      api.Errno
	}{
		{at(5, [2]int{3, 7}), at(5, [2]int{3, 7}), api.OK},
		{at(5), at(6), api.OK},
		{at(6), at(5), api.ErrOrder},
		{at(5, [2]int{3, 7}), at(5), api.ErrShape},
		{at(5), at(5, [2]int{3, 7}), api.ErrShape},
		{at(5, [2]int{3, 7}), at(5, [2]int{4, 7}), api.ErrShape},
		{at(5, [2]int{3, 7}, [2]int{4, 7}), at(5, [2]int{4, 7}, [2]int{3, 7}), api.ErrShape},
		{at(6, [2]int{3, 8}), at(5, [2]int{4, 7}), api.ErrShape},
		{at(5, [2]int{3, 8}), at(5, [2]int{3, 7}), api.ErrOrder},
		{at(5, [2]int{3, 7}, [2]int{3, 9}), at(5, [2]int{3, 7}, [2]int{3, 8}), api.ErrOrder},
		{at(5, [2]int{3, -8}), at(5, [2]int{3, 7}), api.OK},
	} {
		if _, _, e := structure.MomentRange(exampleBeam(), x.low, x.high, 500); e != x.want {
			t.Errorf("%v to %v: %d, want %d", x.low, x.high, e, x.want)
		}
	}
}
