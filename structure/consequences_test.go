package structure_test

import (
	"math/big"
	"slices"
	"testing"

	"spokeshave/api"
	"spokeshave/structure"
)

// pair returns a beam, two burdens on it with at most four weights each, and both added up.
func pair(r interface{ IntN(n int) int }) (api.Beam, api.Burden, api.Burden, api.Burden) {
	b := api.Beam{Span: 1 + r.IntN(2000), Width: 1 + r.IntN(1000), Thick: 1 + r.IntN(300), Ends: r.IntN(2)}
	some := func() api.Burden {
		l := api.Burden{Spread: r.IntN(20001) - 10000}
		for range r.IntN(5) {
			l.Points = append(l.Points, [2]int{r.IntN(b.Span + 1), r.IntN(4001) - 2000})
		}
		return l
	}
	one, other := some(), some()
	return b, one, other, api.Burden{Points: slices.Concat(one.Points, other.Points), Spread: one.Spread + other.Spread}
}

// P7.10 (superposition): reactions, moments and sags of two burdens added up are the sums of theirs.
func TestSuperposition(t *testing.T) {
	r := seeded()
	for range 1000 {
		b, one, other, both := pair(r)
		x := r.IntN(b.Span + 1)
		values := func(l api.Burden) []*big.Rat {
			r0, r1, m0, e := structure.Reactions(b, l)
			moment, e2 := structure.Moment(b, l, x)
			sag, e3 := structure.Sag(b, 11000, l, x)
			if e != api.OK || e2 != api.OK || e3 != api.OK {
				t.Fatal(b, l, x, e, e2, e3)
			}
			return []*big.Rat{ratOf(t, r0), ratOf(t, r1), ratOf(t, m0), ratOf(t, moment), ratOf(t, sag)}
		}
		first, second := values(one), values(other)
		for i, sum := range values(both) {
			if sum.Cmp(plus(first[i], second[i])) != 0 {
				t.Fatalf("%v %v %v, value %d: %s + %s is not %s", b, one, other, i, first[i], second[i], sum)
			}
		}
	}
}

// P7.10 (Maxwell): the sag at x under a weight at a is that at a under this weight at x.
func TestMaxwell(t *testing.T) {
	r := seeded()
	for range 2000 {
		b := randomBeam(r, 2000)
		x, a, newtons := between(r, 0, b.Span), between(r, 0, b.Span), between(r, -2000, 2000)
		f, e := structure.Sag(b, 11000, weightAt(a, newtons), x)
		g, e2 := structure.Sag(b, 11000, weightAt(x, newtons), a)
		if f != g || e != api.OK || e2 != api.OK {
			t.Fatal(b, x, a, newtons, f, g, e, e2)
		}
	}
}

// P7.10 (equilibrium): R0 + R1 is the sum of all weights, the moment at L is 0; and the shear force there is -R1.
func TestEquilibrium(t *testing.T) {
	r := seeded()
	for range 1000 {
		b := randomBeam(r, 2000)
		l := randomBurden(r, b)
		r0, r1, _, e := structure.Reactions(b, l)
		all := whole(l.Spread)
		for _, p := range l.Points {
			all = plus(all, whole(p[1]))
		}
		if e != api.OK || plus(ratOf(t, r0), ratOf(t, r1)).Cmp(all) != 0 {
			t.Fatal(b, l, r0, r1, e)
		}
		f, e := structure.Moment(b, l, b.Span)
		checkFrac(t, "moment at L", f, e, whole(0))
		f, e = structure.Shear(b, l, b.Span)
		checkFrac(t, "shear at L", f, e, new(big.Rat).Neg(ratOf(t, r1)))
	}
}

// P7.10: between weights the moment rises by the mean of the shear forces at both ends, which fall evenly.
func TestShearIsTheSlope(t *testing.T) {
	r := seeded()
	for range 1000 {
		b := randomBeam(r, 2000)
		l := randomBurden(r, b)
		x := r.IntN(b.Span)
		if slices.ContainsFunc(l.Points, func(p [2]int) bool { return p[0] == x+1 }) {
			continue
		}
		here, e := structure.Shear(b, l, x)
		there, e2 := structure.Shear(b, l, x+1)
		from, e3 := structure.Moment(b, l, x)
		to, e4 := structure.Moment(b, l, x+1)
		if e != api.OK || e2 != api.OK || e3 != api.OK || e4 != api.OK {
			t.Fatal(e, e2, e3, e4)
		}
		mean := per(plus(ratOf(t, here), ratOf(t, there)), whole(2))
		if rise := minus(ratOf(t, to), ratOf(t, from)); rise.Cmp(mean) != 0 {
			t.Fatal(b, l, x, rise, mean)
		}
	}
}

// P7.10: stiffer wood sags less, by the same ratio.
func TestStifferWood(t *testing.T) {
	r := seeded()
	for range 1000 {
		b := randomBeam(r, 2000)
		l := randomBurden(r, b)
		x, soft, stiff := between(r, 0, b.Span), between(r, 1, 30000), between(r, 1, 30000)
		f, e := structure.Sag(b, soft, l, x)
		g, e2 := structure.Sag(b, stiff, l, x)
		if e != api.OK || e2 != api.OK || times(ratOf(t, f), whole(soft)).Cmp(times(ratOf(t, g), whole(stiff))) != 0 {
			t.Fatal(b, l, x, soft, stiff, f, g)
		}
	}
}

// P7.10: what holds with a burden holds with a lesser part of it, if all weights are downward.
func TestLesserBurdens(t *testing.T) {
	r := seeded()
	held := 0
	for range 200 {
		b := randomBeam(r, 300)
		l := lightBurden(r, b)
		w := api.Wood{Low: 10000, High: 12000, Strength: 40}
		if structure.Holds(b, w, l, 300) != api.OK {
			continue
		}
		held++
		lesser := api.Burden{Spread: r.IntN(l.Spread + 1)}
		for _, p := range l.Points {
			lesser.Points = append(lesser.Points, [2]int{p[0], r.IntN(p[1] + 1)})
		}
		if e := structure.Holds(b, w, lesser, 300); e != api.OK {
			t.Fatal(b, l, lesser, e)
		}
	}
	if held < 50 {
		t.Error(held)
	}
}

// P7.10: a beam with the least thickness holds, one that is a millimetre thinner does not.
func TestThinnerBeams(t *testing.T) {
	r := seeded()
	thick := 0
	for range 150 {
		b := randomBeam(r, 2000)
		l := randomBurden(r, b)
		w := api.Wood{Low: between(r, 1, 30000), High: 30000, Strength: between(r, 1, 1000)}
		ratio := between(r, 1, 1000)
		n, e := structure.LeastThick(b, w, l, ratio)
		if e != api.OK {
			b.Thick = 300
			if e != api.ErrNone || structure.Holds(b, w, l, ratio) != api.ErrWeak {
				t.Fatal(b, l, w, ratio, e)
			}
			continue
		}
		if b.Thick = n; structure.Holds(b, w, l, ratio) != api.OK {
			t.Fatal(b, l, w, ratio)
		}
		if b.Thick = n - 1; n > 1 && structure.Holds(b, w, l, ratio) != api.ErrWeak {
			t.Fatal(b, l, w, ratio)
		}
		if n > 1 {
			thick++
		}
	}
	if thick < 30 {
		t.Error(thick)
	}
}

// P7.10: more bays never drift more.
func TestMoreBays(t *testing.T) {
	r := seeded()
	for range 500 {
		l := randomBays(r)
		first, e := structure.Drift(l[:1+r.IntN(len(l))], 1000)
		if e != api.OK {
			continue
		}
		all, e := structure.Drift(l, 1000)
		if e != api.OK || ratOf(t, all).Cmp(ratOf(t, first)) > 0 {
			t.Fatal(l, first, all, e)
		}
	}
}
