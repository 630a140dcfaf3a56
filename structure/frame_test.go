package structure_test

import (
	"math/big"
	"math/rand/v2"
	"testing"

	"spokeshave/api"
	"spokeshave/structure"
)

func exampleBay() api.Bay { return api.Bay{Height: 1000, Width: 500, Thick: 4, Shear: 500} }

// stiffnessBy returns the stiffness of a frame by its definition.
func stiffnessBy(l []api.Bay) *big.Rat {
	stiffness := new(big.Rat)
	for _, b := range l {
		stiffness = plus(stiffness, per(whole(b.Shear, b.Thick, b.Width), whole(b.Height)))
		for _, c := range b.Joints {
			stiffness = plus(stiffness, per(whole(1000, c), whole(b.Height, b.Height)))
		}
	}
	return stiffness
}

func randomBays(r *rand.Rand) []api.Bay {
	l := make([]api.Bay, 1+r.IntN(12))
	height := between(r, 1, 3000)
	for i := range l {
		l[i] = api.Bay{Height: height, Width: between(r, 1, 3000)}
		if r.IntN(3) > 0 {
			l[i].Thick, l[i].Shear = between(r, 1, 100), between(r, 1, 2000)
		}
		for range r.IntN(9) {
			l[i].Joints = append(l[i].Joints, between(r, 0, 1000000))
		}
	}
	return l
}

// P7.7 and example 5.
func TestDriftOfExample(t *testing.T) {
	f, e := structure.Drift([]api.Bay{exampleBay()}, 200)
	checkFrac(t, "drift", f, e, big.NewRat(1, 5))
	f, e = structure.Drift([]api.Bay{exampleBay()}, 0)
	checkFrac(t, "drift without a force", f, e, whole(0))
	jointed := api.Bay{Height: 1000, Width: 1, Joints: []int{400, 600}}
	f, e = structure.Drift([]api.Bay{jointed}, 7)
	checkFrac(t, "drift with joints alone", f, e, whole(7))
	f, e = structure.Drift([]api.Bay{exampleBay(), jointed, exampleBay()}, 2001)
	checkFrac(t, "drift of three bays", f, e, whole(1))
}

// P7.7: a frame without any stiffness has no drift.
func TestNoDrift(t *testing.T) {
	for _, l := range [][]api.Bay{
		{{Height: 1, Width: 1}}, {{Height: 5, Width: 1, Joints: []int{0, 0}}, {Height: 5, Width: 2}},
	} {
		for _, newtons := range []int{0, 200} {
			if f, e := structure.Drift(l, newtons); f != (api.Frac{}) || e != api.ErrNone {
				t.Error(l, newtons, f, e)
			}
		}
	}
}

// P7.7: drifts are those of the definition.
func TestDriftByTheDefinition(t *testing.T) {
	r := seeded()
	for range 2000 {
		l, newtons := randomBays(r), between(r, 0, 100000)
		stiffness := stiffnessBy(l)
		f, e := structure.Drift(l, newtons)
		if stiffness.Sign() == 0 {
			if e != api.ErrNone {
				t.Fatalf("%v: %v, %d", l, f, e)
			}
			continue
		}
		checkFrac(t, "drift", f, e, per(whole(newtons), stiffness))
	}
}

// P7.7: the least thickness, at its limits and without any.
func TestLeastPanel(t *testing.T) {
	jointed := api.Bay{Height: 1000, Width: 1, Joints: []int{1000}}
	for _, x := range []struct {
		l                         []api.Bay
		bay, newtons, limit, want int
		err                       api.Errno
	}{
		{[]api.Bay{exampleBay()}, 0, 200, 20, 4, api.OK},
		{[]api.Bay{exampleBay()}, 0, 200, 19, 5, api.OK},
		{[]api.Bay{exampleBay()}, 0, 200, 27, 3, api.OK},
		{[]api.Bay{exampleBay()}, 0, 200, 80, 1, api.OK},
		{[]api.Bay{exampleBay()}, 0, 200, 100000, 1, api.OK}, // without a panel there is no drift
		{[]api.Bay{exampleBay()}, 0, 0, 0, 1, api.OK},
		{[]api.Bay{exampleBay(), jointed}, 0, 0, 0, 0, api.OK},
		{[]api.Bay{exampleBay(), jointed}, 0, 200, 20000, 0, api.OK}, // the joints alone
		{[]api.Bay{exampleBay(), jointed}, 0, 200, 19999, 1, api.OK},
		{[]api.Bay{exampleBay(), exampleBay()}, 1, 200, 20, 0, api.OK},
		{[]api.Bay{exampleBay(), exampleBay()}, 1, 200, 10, 4, api.OK},
		{[]api.Bay{exampleBay()}, 0, 25000, 100, 100, api.OK},
		{[]api.Bay{exampleBay()}, 0, 25001, 100, 0, api.ErrNone},
		{[]api.Bay{exampleBay()}, 0, 1, 0, 0, api.ErrNone},
		{[]api.Bay{{Height: 1, Width: 1, Thick: 1, Shear: 1}}, 0, 1, 100, 1, api.OK},
		{[]api.Bay{{Height: 1, Width: 1, Thick: 1, Shear: 1}}, 0, 1, 99, 2, api.OK},
		{[]api.Bay{exampleBay(), jointed}, 1, 0, 0, 0, api.ErrForm},
		{[]api.Bay{exampleBay(), jointed}, 2, 0, 0, 0, api.ErrMissing},
		{[]api.Bay{exampleBay(), jointed}, -1, 0, 0, 0, api.ErrMissing},
	} {
		if n, e := structure.LeastPanel(x.l, x.bay, x.newtons, x.limit); n != x.want || e != x.err {
			t.Errorf("%v: %d, %d", x, n, e)
		}
	}
}

// P7.7: thicknesses tried one by one, by the definition of the drift.
func TestLeastPanelByTheDefinition(t *testing.T) {
	r := seeded()
	seen := map[bool]int{}
	for range 400 {
		l := randomBays(r)[:1]
		l[0].Thick, l[0].Shear = between(r, 1, 100), between(r, 1, 20)
		newtons, limit := between(r, 0, 100000), between(r, 0, 3000)
		want := leastPanelBy(l, 0, newtons, limit)
		seen[want <= 100]++
		n, e := structure.LeastPanel(l, 0, newtons, limit)
		if want > 100 && (n != 0 || e != api.ErrNone) || want <= 100 && (n != want || e != api.OK) {
			t.Fatalf("%v %d %d: %d, %d, want %d", l, newtons, limit, n, e, want)
		}
	}
	if seen[true] < 50 || seen[false] < 50 {
		t.Error(seen)
	}
}

// leastPanelBy returns the least thickness, or 101.
func leastPanelBy(l []api.Bay, bay, newtons, limit int) int {
	changed := append([]api.Bay(nil), l...)
	for n := range 101 {
		changed[bay].Thick = n
		stiffness := stiffnessBy(changed)
		if stiffness.Sign() > 0 && atMost(per(whole(newtons), stiffness), big.NewRat(int64(limit), 100)) {
			return n
		}
	}
	return 101
}

// P7.7: the errors of bays that are not ranges.
func TestCheckBays(t *testing.T) {
	good, many := exampleBay(), exampleBay()
	many.Joints = make([]int, 9)
	with := func(change func(b *api.Bay)) []api.Bay {
		b := exampleBay()
		change(&b)
		return []api.Bay{good, b}
	}
	for _, x := range []struct {
		l    []api.Bay
		want api.Errno
	}{
		{nil, api.ErrShape}, {[]api.Bay{}, api.ErrShape}, {[]api.Bay{good}, api.OK},
		{make([]api.Bay, 13), api.ErrShape},
		{with(func(b *api.Bay) { b.Thick, b.Shear = 0, 0 }), api.OK},
		{with(func(b *api.Bay) { b.Thick = 0 }), api.ErrForm},
		{with(func(b *api.Bay) { b.Shear = 0 }), api.ErrForm},
		{with(func(b *api.Bay) { b.Joints = make([]int, 8) }), api.OK},
		{[]api.Bay{good, many}, api.ErrLarge},
		{with(func(b *api.Bay) { b.Height = 999 }), api.ErrShape},
		{with(func(b *api.Bay) { b.Height = 0 }), api.ErrRange},
		{with(func(b *api.Bay) { b.Height, b.Shear = 999, 0 }), api.ErrForm},
		{with(func(b *api.Bay) { b.Height, b.Joints = 999, []int{-1} }), api.ErrRange},
		{with(func(b *api.Bay) { b.Joints = []int{-1, 0, 0, 0, 0, 0, 0, 0, 0} }), api.ErrLarge},
		{append(with(func(b *api.Bay) { b.Height = 999 }), api.Bay{}), api.ErrShape}, // the first bay with an error decides
		{append(with(func(b *api.Bay) { b.Width = 0 }), many), api.ErrRange},
	} {
		if e := structure.CheckBays(x.l); e != x.want {
			t.Errorf("%v: %d, want %d", x.l, e, x.want)
		}
	}
	twelve := make([]api.Bay, 12)
	for i := range twelve {
		twelve[i] = good
	}
	if e := structure.CheckBays(twelve); e != api.OK {
		t.Error(e)
	}
}
