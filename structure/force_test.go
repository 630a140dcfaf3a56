package structure_test

import (
	"math/big"
	"testing"

	"spokeshave/api"
	"spokeshave/structure"
)

// P7.2 and example 1: a weight on a beam that rests on both ends.
func TestForcesAtBothEnds(t *testing.T) {
	b, l := exampleBeam(), weightAt(400, 300)
	r0, r1, m0, e := structure.Reactions(b, l)
	checkFrac(t, "R0", r0, e, whole(180))
	checkFrac(t, "R1", r1, e, whole(120))
	checkFrac(t, "M0", m0, e, whole(0))
	for x, want := range map[int]int{0: 180, 100: 180, 399: 180, 400: -120, 401: -120, 1000: -120} {
		f, e := structure.Shear(b, l, x)
		checkFrac(t, "shear", f, e, whole(want))
	}
	for x, want := range map[int]int{0: 0, 100: 18000, 400: 72000, 900: 12000, 1000: 0} {
		f, e := structure.Moment(b, l, x)
		checkFrac(t, "moment", f, e, whole(want))
	}
	if x, f, e := structure.GreatestMoment(b, l); x != 400 || f != (api.Frac{Num: 72000, Den: 1}) || e != api.OK {
		t.Error(x, f, e)
	}
	if f, e := structure.Stress(b, l); f != (api.Frac{Num: 108, Den: 25}) || e != api.OK {
		t.Error(f, e)
	}
}

// P7.2 and example 3: a weight on a beam that is fixed at its beginning.
func TestForcesOfAFixedBeam(t *testing.T) {
	b, l := fixedBeam(), weightAt(1000, 50)
	r0, r1, m0, e := structure.Reactions(b, l)
	checkFrac(t, "R0", r0, e, whole(50))
	checkFrac(t, "R1", r1, e, whole(0))
	checkFrac(t, "M0", m0, e, whole(-50000))
	for x, want := range map[int]int{0: -50000, 400: -30000, 1000: 0} {
		f, e := structure.Moment(b, l, x)
		checkFrac(t, "moment", f, e, whole(want))
	}
	if x, f, e := structure.GreatestMoment(b, l); x != 0 || f != (api.Frac{Num: -50000, Den: 1}) || e != api.OK {
		t.Error(x, f, e)
	}
	if f, e := structure.Stress(b, l); f != (api.Frac{Num: 3, Den: 1}) || e != api.OK {
		t.Error(f, e)
	}
}

// P7.2: a weight at an end that rests, or at the fixed end, counts for the reaction there alone.
func TestWeightsAtEnds(t *testing.T) {
	for _, x := range []struct {
		ends, at   int
		r0, r1, m0 int
	}{{0, 0, 70, 0, 0}, {0, 1000, 0, 70, 0}, {1, 0, 70, 0, 0}, {1, 1000, 70, 0, -70000}} {
		b := exampleBeam()
		b.Ends = x.ends
		r0, r1, m0, e := structure.Reactions(b, weightAt(x.at, 70))
		checkFrac(t, "R0", r0, e, whole(x.r0))
		checkFrac(t, "R1", r1, e, whole(x.r1))
		checkFrac(t, "M0", m0, e, whole(x.m0))
		if x.m0 == 0 {
			at, f, e := structure.GreatestMoment(b, weightAt(x.at, 70))
			if at != 0 || f != (api.Frac{Den: 1}) || e != api.OK {
				t.Error(x, at, f, e)
			}
		}
	}
}

// P7.2: of moments with one size the first place counts, whatever the sign.
func TestGreatestMomentOfOneSize(t *testing.T) {
	for _, x := range []struct {
		b    api.Beam
		l    api.Burden
		at   int
		want int
	}{
		{exampleBeam(), api.Burden{Points: [][2]int{{300, 100}, {700, 100}}}, 300, 30000},
		{exampleBeam(), api.Burden{Points: [][2]int{{250, 100}, {750, -100}}}, 250, 12500},
		{exampleBeam(), api.Burden{Points: [][2]int{{250, -100}, {750, 100}}}, 250, -12500},
		{fixedBeam(), api.Burden{Points: [][2]int{{500, 200}, {1000, -200}}}, 0, 100000},
		{fixedBeam(), api.Burden{Points: [][2]int{{500, 400}, {1000, -100}}}, 0, -100000},
		{fixedBeam(), api.Burden{Points: [][2]int{{500, 300}, {1000, -100}}}, 0, -50000}, // as great in size as at 500
		{exampleBeam(), api.Burden{}, 0, 0},
		{fixedBeam(), api.Burden{}, 0, 0},
		{exampleBeam(), api.Burden{Points: [][2]int{{400, 50}, {400, -50}}}, 0, 0},
	} {
		at, f, e := structure.GreatestMoment(x.b, x.l)
		checkFrac(t, "moment", f, e, whole(x.want))
		if at != x.at {
			t.Errorf("%v: at %d, want %d", x.l, at, x.at)
		}
	}
}

// P7.2: forces and moments are those of the definitions.
func TestForcesByTheDefinitions(t *testing.T) {
	r := seeded()
	for range 3000 {
		b := randomBeam(r, 2000)
		l := randomBurden(r, b)
		r0, r1, m0, e := structure.Reactions(b, l)
		want0, want1, want2 := reactionsBy(b, l)
		checkFrac(t, "R0", r0, e, want0)
		checkFrac(t, "R1", r1, e, want1)
		checkFrac(t, "M0", m0, e, want2)
		for _, x := range placesOf(b, l, between(r, 0, b.Span)) {
			f, e := structure.Shear(b, l, x)
			checkFrac(t, "shear", f, e, shearBy(b, l, x))
			f, e = structure.Moment(b, l, x)
			checkFrac(t, "moment", f, e, momentBy(b, l, x))
		}
	}
}

// placesOf returns the ends, those of weights, and others.
func placesOf(b api.Beam, l api.Burden, others ...int) []int {
	places := append([]int{0, b.Span}, others...)
	for _, p := range l.Points {
		places = append(places, p[0])
	}
	return places
}

// P7.2: greatest moments and stresses are those of the definitions, looked for at all whole places.
func TestGreatestMomentsByTheDefinitions(t *testing.T) {
	r := seeded()
	for i := range 60 {
		b := randomBeam(r, 40)
		if i%20 == 0 {
			b = randomBeam(r, 2000)
		}
		l := randomBurden(r, b)
		place, moment := greatestMomentBy(b, l)
		at, f, e := structure.GreatestMoment(b, l)
		checkFrac(t, "greatest moment", f, e, moment)
		if at != place {
			t.Fatalf("%v %v: at %d, want %d", b, l, at, place)
		}
		f, e = structure.Stress(b, l)
		checkFrac(t, "stress", f, e, stressBy(b, l))
	}
}

// P7.2: the greatest moment under a spread weight may lie between two whole places.
func TestGreatestMomentBetweenPlaces(t *testing.T) {
	b := api.Beam{Span: 5, Width: 1, Thick: 1}
	at, f, e := structure.GreatestMoment(b, api.Burden{Spread: 10})
	checkFrac(t, "moment", f, e, big.NewRat(6, 1))
	if at != 2 {
		t.Error(at)
	}
}
