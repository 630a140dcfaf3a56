package structure_test

import (
	"math/big"
	"testing"

	"spokeshave/api"
	"spokeshave/structure"
)

func exampleWood() api.Wood { return api.Wood{Low: 10000, High: 12000, Strength: 40} }

// holdsBy tells by the definition whether a beam holds.
func holdsBy(b api.Beam, w api.Wood, l api.Burden, ratio int) bool {
	_, sag := greatestSagBy(b, w.Low, l)
	return atMost(stressBy(b, l), whole(w.Strength)) && atMost(sizeOf(sag), per(whole(b.Span), whole(ratio)))
}

// P7.5: stress and sag at their limits, and just beyond.
func TestHoldsAtLimits(t *testing.T) {
	b := fixedBeam() // sags 10 at its end under 50 newtons, and has the stress 3
	for _, x := range []struct {
		newtons, low, strength, ratio int
		want                          api.Errno
	}{
		{50, 10000, 3, 100, api.OK},
		{50, 10000, 2, 100, api.ErrWeak},
		{50, 10000, 3, 101, api.ErrWeak},
		{50, 9999, 3, 100, api.ErrWeak},
		{51, 30000, 3, 100, api.ErrWeak},
		{-50, 10000, 3, 100, api.OK},
		{-50, 10000, 2, 100, api.ErrWeak},
		{-50, 10000, 3, 101, api.ErrWeak},
		{0, 1, 1, 1000, api.OK},
	} {
		w := api.Wood{Low: x.low, High: 30000, Strength: x.strength}
		if e := structure.Holds(b, w, weightAt(1000, x.newtons), x.ratio); e != x.want {
			t.Errorf("%v: %d, want %d", x, e, x.want)
		}
	}
}

// P7.5: Holds follows the definition, also where its products are beyond 2^63.
func TestHoldsByTheDefinition(t *testing.T) {
	r := seeded()
	seen := map[bool]int{}
	for i := range 400 {
		b := randomBeam(r, 40)
		if i%40 == 0 {
			b = api.Beam{Span: 2000 - r.IntN(100), Width: 1000 - r.IntN(9), Thick: 300 - r.IntN(250), Ends: r.IntN(2)}
		}
		l := lightBurden(r, b)
		if r.IntN(2) == 0 {
			l = randomBurden(r, b)
		}
		w := api.Wood{Low: between(r, 1, 30000), High: 30000, Strength: between(r, 1, 100)}
		ratio := between(r, 1, 1000)
		holds := holdsBy(b, w, l, ratio)
		seen[holds]++
		if e := structure.Holds(b, w, l, ratio); e != api.OK && e != api.ErrWeak || e == api.OK != holds {
			t.Fatalf("%v %v %v %d: %d, want %v", b, w, l, ratio, e, holds)
		}
	}
	if seen[true] < 50 || seen[false] < 50 {
		t.Error(seen)
	}
}

// P7.5: the ratio at which the greatest sag is just allowed is found exactly, for sags with great numerators and denominators.
func TestHoldsAtTheExactRatio(t *testing.T) {
	r := seeded()
	for range 60 {
		b := api.Beam{Span: 1900 + r.IntN(101), Width: 900 + r.IntN(101), Thick: 60 + r.IntN(241), Ends: r.IntN(2)}
		w := api.Wood{Low: 20000 + r.IntN(10001), High: 30000, Strength: 1000}
		l := lightBurden(r, b)
		l.Spread += 50
		l.Points = append(l.Points, [2]int{1 + r.IntN(b.Span-1), 100})
		_, f, e := structure.GreatestSag(b, w.Low, l)
		if e != api.OK {
			t.Fatal(e)
		}
		ratio := min(1000, roundedDown(per(whole(b.Span), sizeOf(ratOf(t, f))))) // the greatest one that is allowed
		if e := structure.Holds(b, w, l, ratio); e != api.OK {
			t.Errorf("%v %v: %d with the ratio %d", b, l, e, ratio)
		}
		if ratio == 1000 {
			continue
		}
		if e := structure.Holds(b, w, l, ratio+1); e != api.ErrWeak {
			t.Errorf("%v %v: %d with the ratio %d", b, l, e, ratio+1)
		}
	}
}

// P7.6: the least thickness is the first one that holds.
func TestLeastThick(t *testing.T) {
	for _, x := range []struct {
		low, strength, ratio, want int
	}{
		{10000, 40, 100, 20}, // the sag is just 10 with the thickness 20
		{10000, 40, 101, 21},
		{10000, 1, 100, 35}, // 6 * 50000 / (250 * T^2) <= 1: T^2 >= 1200
		{30000, 1000, 1, 3}, // T^3 >= 8000 / 3 / 100
	} {
		w := api.Wood{Low: x.low, High: 30000, Strength: x.strength}
		for _, given := range []int{1, 20, 300} { // the thickness that the beam has does not count
			b := fixedBeam()
			b.Thick = given
			if n, e := structure.LeastThick(b, w, weightAt(1000, 50), x.ratio); n != x.want || e != api.OK {
				t.Errorf("%v: %d, %d, want %d", x, n, e, x.want)
			}
		}
	}
	if n, e := structure.LeastThick(fixedBeam(), api.Wood{Low: 1, High: 1, Strength: 1}, api.Burden{}, 1000); n != 1 || e != api.OK {
		t.Error(n, e)
	}
}

// P7.6: the least thickness may be the greatest one that is allowed, and there may be none.
func TestLeastThickAtItsLimit(t *testing.T) {
	b := api.Beam{Span: 1000, Width: 6, Thick: 20, Ends: 1}
	w := api.Wood{Low: 30000, High: 30000, Strength: 9}
	// 6 * 1000 P / (6 * 300^2) <= 9: P <= 810.
	if n, e := structure.LeastThick(b, w, weightAt(1000, 810), 1); n != 300 || e != api.OK {
		t.Error(n, e)
	}
	if n, e := structure.LeastThick(b, w, weightAt(1000, 811), 1); n != 0 || e != api.ErrNone {
		t.Error(n, e)
	}
}

// P7.6: thicknesses tried one by one, by the definition of what holds.
func TestLeastThickByTheDefinition(t *testing.T) {
	r := seeded()
	seen := map[bool]int{}
	for range 200 {
		b := randomBeam(r, 60)
		l := randomBurden(r, b)
		w := api.Wood{Low: between(r, 1, 30000), High: 30000, Strength: between(r, 1, 1000)}
		ratio := between(r, 1, 1000)
		want := leastThickBy(b, w, l, ratio)
		seen[want > 1]++
		n, e := structure.LeastThick(b, w, l, ratio)
		if want > 300 && (n != 0 || e != api.ErrNone) || want <= 300 && (n != want || e != api.OK) {
			t.Fatalf("%v %v %v %d: %d, %d, want %d", b, w, l, ratio, n, e, want)
		}
	}
	if seen[true] < 100 {
		t.Error(seen)
	}
}

// leastThickBy returns the least thickness, or 301; moment and sag of the thickness 1 are divided by the powers of others.
func leastThickBy(b api.Beam, w api.Wood, l api.Burden, ratio int) int {
	b.Thick = 1
	stress := stressBy(b, l)
	_, sag := greatestSagBy(b, w.Low, l)
	for n := 1; n <= 300; n++ {
		if atMost(per(stress, whole(n, n)), whole(w.Strength)) && atMost(per(sizeOf(sag), whole(n, n, n)), per(whole(b.Span), whole(ratio))) {
			return n
		}
	}
	return 301
}

// P7.6 and example 4.
func TestLongestSpanOfExample(t *testing.T) {
	w := api.Wood{Low: 10000, High: 10000, Strength: 40}
	for _, given := range []int{1, 1000, 2000} { // the span that the beam has does not count
		b := exampleBeam()
		b.Span = given
		if n, e := structure.LongestSpan(b, w, 400, 250); n != 1085 || e != api.OK {
			t.Error(n, e)
		}
	}
}

// P7.6: strength or sag may bound the span; it may be 1 or 2000, or there is none.
func TestLongestSpanAtLimits(t *testing.T) {
	for _, x := range []struct {
		b                              api.Beam
		low, strength, perMetre, ratio int
		want                           int
		err                            api.Errno
	}{
		{api.Beam{Span: 9, Width: 6, Thick: 1}, 30000, 1, 8, 1, 31, api.OK},               // 6 * 8 L^2 <= 8000 * 6: L^2 <= 1000
		{api.Beam{Span: 9, Width: 6, Thick: 1, Ends: 1}, 30000, 1, 2, 1, 31, api.OK},      // 6 * 2 L^2 <= 2000 * 6: L^2 <= 1000
		{api.Beam{Span: 9, Width: 1, Thick: 1}, 1, 1000, 1, 800, 2, api.OK},               // 800 L^3 <= 6400: L^3 <= 8
		{api.Beam{Span: 9, Width: 1, Thick: 1}, 1, 1000, 1, 801, 1, api.OK},               // L^3 < 8
		{api.Beam{Span: 9, Width: 3, Thick: 1, Ends: 1}, 1, 1000, 1, 250, 2, api.OK},      // 3 * 250 L^3 <= 2000 * 3: L^3 <= 8
		{api.Beam{Span: 9, Width: 3, Thick: 1, Ends: 1}, 1, 1000, 1, 251, 1, api.OK},      // L^3 < 8
		{api.Beam{Span: 9, Width: 3, Thick: 1}, 30000, 1, 40, 1, 10, api.OK},              // 6 * 40 L^2 <= 8000 * 3: L^2 <= 100
		{api.Beam{Span: 9, Width: 3, Thick: 1, Ends: 1}, 30000, 1, 10, 1, 10, api.OK},     // 6 * 10 L^2 <= 2000 * 3: L^2 <= 100
		{api.Beam{Span: 9, Width: 1, Thick: 1, Ends: 1}, 30000, 1000, 3334, 1, 9, api.OK}, // 6 * 3334 * 100 > 2000 * 1000
		{api.Beam{Span: 9, Width: 1, Thick: 1}, 1000, 1000, 173, 37, 9, api.OK},           // 173 * 37 * 1000 > 6400 * 1000
		{api.Beam{Span: 9, Width: 1, Thick: 1}, 1, 1000, 10000, 1, 0, api.ErrNone},        // 10000 > 6400
		{api.Beam{Span: 9, Width: 1, Thick: 1}, 30000, 1, 1333, 1, 1, api.OK},             // 6 * 1333 <= 8000
		{api.Beam{Span: 9, Width: 1, Thick: 1}, 30000, 1, 1334, 1, 0, api.ErrNone},        // 6 * 1334 > 8000
		{api.Beam{Span: 9, Width: 1000, Thick: 300}, 30000, 1000, 10000, 1, 2000, api.OK}, // strong enough for more
		{api.Beam{Span: 9, Width: 1, Thick: 300}, 30000, 1000, 1, 1000, 2000, api.OK},     // likewise
		{api.Beam{Span: 2000, Width: 1, Thick: 1, Ends: 1}, 1, 1, 10000, 1000, 0, api.ErrNone},
	} {
		w := api.Wood{Low: x.low, High: 30000, Strength: x.strength}
		if n, e := structure.LongestSpan(x.b, w, x.perMetre, x.ratio); n != x.want || e != x.err {
			t.Errorf("%v: %d, %d", x, n, e)
		}
	}
}

// P7.6: spans tried one by one, by the formulas of the chapter.
func TestLongestSpanByTheFormulas(t *testing.T) {
	r := seeded()
	for range 60 {
		b := api.Beam{Span: 1, Width: between(r, 1, 100), Thick: between(r, 1, 40), Ends: r.IntN(2)}
		w := api.Wood{Low: between(r, 1, 30000), High: 30000, Strength: between(r, 1, 100)}
		perMetre, ratio := between(r, 1, 10000), between(r, 1, 1000)
		want := 0
		for want < 2000 && bearsBy(b, w, want+1, perMetre, ratio) {
			want++
		}
		n, e := structure.LongestSpan(b, w, perMetre, ratio)
		if n != want || e == api.OK != (want > 0) || e != api.OK && e != api.ErrNone {
			t.Fatalf("%v %v %d %d: %d, %d, want %d", b, w, perMetre, ratio, n, e, want)
		}
	}
}

func bearsBy(b api.Beam, w api.Wood, span, perMetre, ratio int) bool {
	p := big.NewRat(int64(perMetre), 1000)
	bending := per(whole(w.Low, b.Width, b.Thick, b.Thick, b.Thick), whole(12))
	moment, sag := per(times(p, whole(span, span)), whole(8)), per(times(p, whole(5, span, span, span, span)), times(whole(384), bending))
	if b.Ends == 1 {
		moment, sag = per(times(p, whole(span, span)), whole(2)), per(times(p, whole(span, span, span, span)), times(whole(8), bending))
	}
	return atMost(per(times(whole(6), moment), whole(b.Width, b.Thick, b.Thick)), whole(w.Strength)) && atMost(sag, per(whole(span), whole(ratio)))
}
