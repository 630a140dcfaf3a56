package structure_test

import (
	"math/big"
	"testing"

	"spokeshave/api"
	"spokeshave/structure"
)

// P7.3 and examples 2 and 3.
func TestSagsOfExamples(t *testing.T) {
	spread := api.Burden{Spread: 240}
	f, e := structure.Sag(exampleBeam(), 10000, spread, 500)
	checkFrac(t, "sag in the middle", f, e, big.NewRat(15, 8))
	f, e = structure.Moment(exampleBeam(), spread, 500)
	checkFrac(t, "moment in the middle", f, e, whole(30000))
	at, f, e := structure.GreatestSag(exampleBeam(), 10000, spread)
	checkFrac(t, "greatest sag", f, e, big.NewRat(15, 8))
	if at != 500 {
		t.Error(at)
	}
	f, e = structure.Sag(fixedBeam(), 10000, weightAt(1000, 50), 1000)
	checkFrac(t, "sag of the fixed beam", f, e, whole(10))
	at, f, e = structure.GreatestSag(fixedBeam(), 10000, weightAt(1000, 50))
	checkFrac(t, "greatest sag of the fixed beam", f, e, whole(10))
	if at != 1000 {
		t.Error(at)
	}
}

// P7.3: nothing sags where it rests, or is fixed, and a beam without weights sags nowhere.
func TestNoSag(t *testing.T) {
	l := api.Burden{Points: [][2]int{{0, 100}, {300, 70}, {1000, 200}}, Spread: 55}
	for _, x := range []struct {
		b  api.Beam
		l  api.Burden
		at int
	}{
		{exampleBeam(), l, 0}, {exampleBeam(), l, 1000}, {fixedBeam(), l, 0},
		{exampleBeam(), api.Burden{}, 400}, {fixedBeam(), api.Burden{}, 1000},
		{exampleBeam(), weightAt(0, 100), 500}, {exampleBeam(), weightAt(1000, 100), 500}, {fixedBeam(), weightAt(0, 100), 500},
	} {
		if f, e := structure.Sag(x.b, 10000, x.l, x.at); f != (api.Frac{Den: 1}) || e != api.OK {
			t.Error(x, f, e)
		}
	}
	for _, b := range []api.Beam{exampleBeam(), fixedBeam()} {
		if at, f, e := structure.GreatestSag(b, 1, api.Burden{}); at != 0 || f != (api.Frac{Den: 1}) || e != api.OK {
			t.Error(at, f, e)
		}
	}
}

// P7.3: of sags with one size the first place counts, whatever the sign.
func TestGreatestSagOfOneSize(t *testing.T) {
	for _, newtons := range []int{100, -100} {
		l := api.Burden{Points: [][2]int{{250, newtons}, {750, -newtons}}}
		place, want := greatestSagBy(exampleBeam(), 9000, l)
		at, f, e := structure.GreatestSag(exampleBeam(), 9000, l)
		checkFrac(t, "greatest sag", f, e, want)
		if at != place || at >= 500 || f.Num > 0 != (newtons > 0) {
			t.Error(at, f, place)
		}
	}
	odd := api.Beam{Span: 7, Width: 3, Thick: 2}
	if at, _, e := structure.GreatestSag(odd, 9000, api.Burden{Spread: 10}); at != 3 || e != api.OK {
		t.Error(at, e)
	}
}

// P7.3: sags are those of the table.
func TestSagsByTheTable(t *testing.T) {
	r := seeded()
	for range 3000 {
		b := randomBeam(r, 2000)
		l := randomBurden(r, b)
		stiffness := between(r, 1, 30000)
		for _, x := range placesOf(b, l, between(r, 0, b.Span), between(r, 0, b.Span)) {
			f, e := structure.Sag(b, stiffness, l, x)
			checkFrac(t, "sag", f, e, sagBy(b, stiffness, l, x))
		}
	}
}

// P7.3: greatest sags are those of the table, looked for at all whole places.
func TestGreatestSagsByTheTable(t *testing.T) {
	r := seeded()
	for i := range 60 {
		b := randomBeam(r, 40)
		if i%20 == 0 {
			b = randomBeam(r, 2000)
		}
		l := randomBurden(r, b)
		stiffness := between(r, 1, 30000)
		place, sag := greatestSagBy(b, stiffness, l)
		at, f, e := structure.GreatestSag(b, stiffness, l)
		checkFrac(t, "greatest sag", f, e, sag)
		if at != place {
			t.Fatalf("%v %v: at %d, want %d", b, l, at, place)
		}
	}
}

// P7.3: the least and the greatest sag are those for all stiffnesses, tried one by one.
func TestSagRange(t *testing.T) {
	r := seeded()
	for range 300 {
		b := randomBeam(r, 2000)
		l := randomBurden(r, b)
		w := api.Wood{Low: 1 + r.IntN(29900), Strength: 40}
		w.High = w.Low + r.IntN(30)
		x := between(r, 0, b.Span)
		low, high := sagBy(b, w.Low, l, x), sagBy(b, w.Low, l, x)
		for stiffness := w.Low; stiffness <= w.High; stiffness++ {
			sag := sagBy(b, stiffness, l, x)
			if sag.Cmp(low) < 0 {
				low = sag
			}
			if sag.Cmp(high) > 0 {
				high = sag
			}
		}
		f, g, e := structure.SagRange(b, w, l, x)
		checkFrac(t, "least sag", f, e, low)
		checkFrac(t, "greatest sag", g, e, high)
	}
}

// P7.3: a beam that bends upward has its least sag with the softest wood.
func TestSagRangeUpward(t *testing.T) {
	w := api.Wood{Low: 5000, High: 10000, Strength: 40}
	for newtons, want := range map[int][2]int{50: {10, 20}, -50: {-20, -10}, 0: {0, 0}} {
		f, g, e := structure.SagRange(fixedBeam(), w, weightAt(1000, newtons), 1000)
		checkFrac(t, "least sag", f, e, whole(want[0]))
		checkFrac(t, "greatest sag", g, e, whole(want[1]))
	}
}
