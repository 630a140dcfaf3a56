package structure_test

import (
	"math/big"
	"math/rand/v2"
	"reflect"
	"testing"

	"spokeshave/api"
)

// The beam of the chapter's examples, and the same one fixed at its beginning.
func exampleBeam() api.Beam { return api.Beam{Span: 1000, Width: 250, Thick: 20} }
func fixedBeam() api.Beam   { return api.Beam{Span: 1000, Width: 250, Thick: 20, Ends: 1} }

// weightAt is a burden of a single weight.
func weightAt(place, newtons int) api.Burden {
	return api.Burden{Points: [][2]int{{place, newtons}}}
}

func seeded() *rand.Rand { return rand.New(rand.NewPCG(7, 11)) }

// between returns a random number from low to high; the ends are more likely than the others.
func between(r *rand.Rand, low, high int) int {
	switch r.IntN(8) {
	case 0:
		return low
	case 1:
		return high
	}
	return low + r.IntN(high-low+1)
}

// randomBeam returns a beam of at most this span.
func randomBeam(r *rand.Rand, span int) api.Beam {
	return api.Beam{Span: between(r, 1, span), Width: between(r, 1, 1000), Thick: between(r, 1, 300), Ends: r.IntN(2)}
}

func randomBurden(r *rand.Rand, b api.Beam) api.Burden {
	l := api.Burden{Spread: between(r, -20000, 20000)}
	if r.IntN(3) == 0 {
		l.Spread = 0
	}
	for range r.IntN(9) {
		l.Points = append(l.Points, [2]int{between(r, 0, b.Span), between(r, -2000, 2000)})
	}
	return l
}

// lightBurden is one that wood may hold.
func lightBurden(r *rand.Rand, b api.Beam) api.Burden {
	l := api.Burden{Spread: r.IntN(200)}
	for range r.IntN(4) {
		l.Points = append(l.Points, [2]int{r.IntN(b.Span + 1), r.IntN(200)})
	}
	return l
}

// whole returns the product of whole numbers.
func whole(factors ...int) *big.Rat {
	product := big.NewRat(1, 1)
	for _, n := range factors {
		product.Mul(product, new(big.Rat).SetInt64(int64(n)))
	}
	return product
}

func plus(terms ...*big.Rat) *big.Rat {
	sum := new(big.Rat)
	for _, x := range terms {
		sum.Add(sum, x)
	}
	return sum
}

func minus(x, y *big.Rat) *big.Rat { return new(big.Rat).Sub(x, y) }
func times(x, y *big.Rat) *big.Rat { return new(big.Rat).Mul(x, y) }
func per(x, y *big.Rat) *big.Rat   { return new(big.Rat).Quo(x, y) }
func sizeOf(x *big.Rat) *big.Rat   { return new(big.Rat).Abs(x) }
func atMost(x, y *big.Rat) bool    { return x.Cmp(y) <= 0 }

// roundedDown returns the greatest whole number that is at most x.
func roundedDown(x *big.Rat) int {
	return int(new(big.Int).Div(x.Num(), x.Denom()).Int64())
}

// ratOf returns the value of a fraction; it has to be in lowest terms, with a positive denominator, and both below 2^62.
func ratOf(t *testing.T, f api.Frac) *big.Rat {
	t.Helper()
	if f.Den <= 0 {
		t.Fatalf("%v: the denominator is not positive", f)
	}
	x := big.NewRat(int64(f.Num), int64(f.Den))
	if x.Num().Int64() != int64(f.Num) || x.Denom().Int64() != int64(f.Den) {
		t.Fatalf("%v is not in lowest terms", f)
	}
	if f.Den >= 1<<62 || f.Num >= 1<<62 || f.Num <= -1<<62 {
		t.Fatalf("%v has numbers beyond 2^62", f)
	}
	return x
}

// checkFrac tests a fraction that came with an error.
func checkFrac(t *testing.T, what string, f api.Frac, e api.Errno, want *big.Rat) {
	t.Helper()
	if e != api.OK {
		t.Fatalf("%s: %d, want %s", what, e, want)
	}
	if x := ratOf(t, f); x.Cmp(want) != 0 {
		t.Fatalf("%s: %s, want %s", what, x, want)
	}
}

// The definitions of the chapter, taken to the letter.

func reactionsBy(b api.Beam, l api.Burden) (r0, r1, m0 *big.Rat) {
	span, half := whole(b.Span), per(whole(l.Spread), whole(2))
	if b.Ends == 1 {
		r0, r1, m0 = whole(l.Spread), whole(0), times(whole(-l.Spread, b.Span), big.NewRat(1, 2))
	} else {
		r0, r1, m0 = half, half, whole(0)
	}
	for _, p := range l.Points {
		a, newtons := p[0], p[1]
		if b.Ends == 1 {
			r0, m0 = plus(r0, whole(newtons)), minus(m0, whole(newtons, a))
			continue
		}
		r0 = plus(r0, per(whole(newtons, b.Span-a), span))
		r1 = plus(r1, per(whole(newtons, a), span))
	}
	return r0, r1, m0
}

func shearBy(b api.Beam, l api.Burden, x int) *big.Rat {
	r0, _, _ := reactionsBy(b, l)
	shear := minus(r0, per(whole(l.Spread, x), whole(b.Span)))
	for _, p := range l.Points {
		if p[0] <= x {
			shear = minus(shear, whole(p[1]))
		}
	}
	return shear
}

func momentBy(b api.Beam, l api.Burden, x int) *big.Rat {
	r0, _, m0 := reactionsBy(b, l)
	moment := minus(plus(m0, times(r0, whole(x))), per(whole(l.Spread, x, x), whole(2, b.Span)))
	for _, p := range l.Points {
		if p[0] <= x {
			moment = minus(moment, whole(p[1], x-p[0]))
		}
	}
	return moment
}

func sagBy(b api.Beam, stiffness int, l api.Burden, x int) *big.Rat {
	span := b.Span
	bending := per(whole(stiffness, b.Width, b.Thick, b.Thick, b.Thick), whole(12))
	sag := per(whole(l.Spread, x, span*span*span-2*span*x*x+x*x*x), whole(24, span))
	if b.Ends == 1 {
		sag = per(whole(l.Spread, x, x, x*x-4*span*x+6*span*span), whole(24, span))
	}
	for _, p := range l.Points {
		sag = plus(sag, pointSagBy(b, p[0], p[1], x))
	}
	return per(sag, bending)
}

// pointSagBy returns the sag of a weight, multiplied by E I.
func pointSagBy(b api.Beam, a, newtons, x int) *big.Rat {
	span := b.Span
	switch {
	case b.Ends == 1 && x <= a:
		return per(whole(newtons, x, x, 3*a-x), whole(6))
	case b.Ends == 1:
		return per(whole(newtons, a, a, 3*x-a), whole(6))
	case x <= a:
		return per(whole(newtons, span-a, x, span*span-(span-a)*(span-a)-x*x), whole(6, span))
	default:
		return per(whole(newtons, a, span-x, span*span-a*a-(span-x)*(span-x)), whole(6, span))
	}
}

// greatestBy returns the first whole place at which a value is greatest in size, and this value.
func greatestBy(b api.Beam, valueAt func(x int) *big.Rat) (int, *big.Rat) {
	place, most := 0, valueAt(0)
	for x := 1; x <= b.Span; x++ {
		if now := valueAt(x); sizeOf(now).Cmp(sizeOf(most)) > 0 {
			place, most = x, now
		}
	}
	return place, most
}

func greatestMomentBy(b api.Beam, l api.Burden) (int, *big.Rat) {
	return greatestBy(b, func(x int) *big.Rat { return momentBy(b, l, x) })
}

func greatestSagBy(b api.Beam, stiffness int, l api.Burden) (int, *big.Rat) {
	return greatestBy(b, func(x int) *big.Rat { return sagBy(b, stiffness, l, x) })
}

func stressBy(b api.Beam, l api.Burden) *big.Rat {
	_, moment := greatestMomentBy(b, l)
	return per(times(whole(6), sizeOf(moment)), whole(b.Width, b.Thick, b.Thick))
}

// results puts the results of a call into a list, the error last.
func results(l ...any) []any { return l }

// errorOf returns the error of a call; beside an error all other results have to be zero values.
func errorOf(t *testing.T, what string, l []any) api.Errno {
	t.Helper()
	e := l[len(l)-1].(api.Errno)
	for _, x := range l[:len(l)-1] {
		if v := reflect.ValueOf(x); e != api.OK && !v.IsZero() && (v.Kind() != reflect.Slice || v.Len() > 0) {
			t.Errorf("%s: %v beside the error %d", what, x, e)
		}
	}
	return e
}
