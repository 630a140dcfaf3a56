package structure_test

import (
	"math/big"
	"testing"

	"spokeshave/api"
	"spokeshave/structure"
)

// P7.9 and examples 7 and 8.
func TestGlueAndHingesOfExamples(t *testing.T) {
	if n, e := structure.Carries([3]int{0, 16000000, 4000000}, 0, 1000, 500); n != 2000 || e != api.OK {
		t.Error(n, e)
	}
	if f, e := structure.Hinge(20000, 600, 900); f != (api.Frac{Num: 327, Den: 5}) || e != api.OK {
		t.Error(f, e)
	}
}

// P7.9: which area bears which stress; the result is rounded down.
func TestCarries(t *testing.T) {
	area := [3]int{10000000, 200000000, 3000000000}
	for _, x := range []struct{ axis, shear, pull, want int }{
		{0, 1, 0, 320}, {1, 1, 0, 301}, {2, 1, 0, 21}, {0, 0, 1, 1}, {1, 0, 1, 20}, {2, 0, 1, 300}, {1, 2, 5, 702}, {0, 0, 0, 0},
	} {
		if n, e := structure.Carries(area, x.axis, x.shear, x.pull); n != x.want || e != api.OK {
			t.Error(x, n, e)
		}
	}
	for sum, want := range map[int]int{9999999: 0, 10000000: 1, 10000001: 1, 19999999: 1} {
		if n, e := structure.Carries([3]int{sum, 0, 0}, 0, 0, 1); n != want || e != api.OK {
			t.Error(sum, n, e)
		}
	}
}

// P7.9: both formulas, in exact numbers.
func TestGlueAndHingesExactly(t *testing.T) {
	r := seeded()
	for range 2000 {
		area := [3]int{between(r, 0, 1000000000000), between(r, 0, 1000000000000), between(r, 0, 1000000000000)}
		axis, shear, pull := r.IntN(3), between(r, 0, 100000), between(r, 0, 100000)
		stress := [3]int{shear, shear, shear}
		stress[axis] = pull
		want := per(plus(whole(area[0], stress[0]), whole(area[1], stress[1]), whole(area[2], stress[2])), whole(10000000))
		if n, e := structure.Carries(area, axis, shear, pull); n != roundedDown(want) || e != api.OK {
			t.Fatal(area, axis, shear, pull, n, e)
		}
		grams, width, apart := between(r, 1, 200000), between(r, 1, 3000), between(r, 1, 3000)
		f, e := structure.Hinge(grams, width, apart)
		checkFrac(t, "hinge", f, e, per(times(times(big.NewRat(int64(grams), 1000), big.NewRat(981, 100)), whole(width)), whole(2, apart)))
	}
}
