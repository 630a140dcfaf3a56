package structure_test

import (
	"testing"

	"spokeshave/api"
	"spokeshave/structure"
)

// heavyBurden has eight weights at the free end of a beam or close to it, and a spread one.
func heavyBurden(b api.Beam, newtons int) api.Burden {
	l := api.Burden{Spread: 10 * newtons}
	for i := range 8 {
		l.Points = append(l.Points, [2]int{b.Span - i%3, newtons})
	}
	return l
}

// greatBeams are the greatest one, one whose sides have no common divisors with anything, and a thin one.
func greatBeams(ends int) []api.Beam {
	return []api.Beam{{Span: 2000, Width: 1000, Thick: 300, Ends: ends}, {Span: 1999, Width: 997, Thick: 293, Ends: ends}, {Span: 1999, Width: 1, Thick: 1, Ends: ends}}
}

// P7.11: numerators and denominators stay right, and below 2^62 (ratOf looks at that), for the greatest beams and burdens.
func TestSizesOfNumbers(t *testing.T) {
	for _, b := range append(greatBeams(0), greatBeams(1)...) {
		for _, newtons := range []int{2000, -2000, 1999, -1997} {
			l := heavyBurden(b, newtons)
			for _, x := range []int{1, 999, b.Span - 1, b.Span} {
				f, e := structure.Moment(b, l, x)
				checkFrac(t, "moment", f, e, momentBy(b, l, x))
				for _, stiffness := range []int{30000, 29989, 1} {
					f, e := structure.Sag(b, stiffness, l, x)
					checkFrac(t, "sag", f, e, sagBy(b, stiffness, l, x))
				}
			}
		}
	}
}

// P7.11: what holds is decided without errors by the greatest numbers.
func TestHoldsWithGreatNumbers(t *testing.T) {
	for _, b := range append(greatBeams(0), greatBeams(1)...) {
		l := heavyBurden(b, 1999)
		stress := stressBy(b, l)
		_, sag := greatestSagBy(b, 1, l)
		f, e := structure.Stress(b, l)
		checkFrac(t, "stress", f, e, stress)
		for _, stiffness := range []int{1, 29989, 30000} {
			for _, ratio := range []int{1, 7, 71, 1000} {
				want := api.OK
				if !atMost(stress, whole(1000)) || !atMost(times(sizeOf(sag), whole(ratio)), whole(b.Span, stiffness)) {
					want = api.ErrWeak
				}
				if e := structure.Holds(b, api.Wood{Low: stiffness, High: 30000, Strength: 1000}, l, ratio); e != want {
					t.Error(b, stiffness, ratio, e, want)
				}
			}
		}
	}
}
