package timber_test

import (
	"math/big"
	"slices"
	"testing"

	"spokeshave/api"
	"spokeshave/timber"
)

// P2.5: the example of the chapter, and each limit of a grade.
func TestGradeOf(t *testing.T) {
	clear, second := api.Grade{Name: "clear"}, api.Grade{Name: "second", Most: 2, Share: 100, Clear: 30}
	any := api.Grade{Name: "any", Most: 60, Share: 1000}
	allBad := with(plain("bad", "oak", 100, 40), api.Rect{X2: 100, Y2: 40})
	for name, x := range map[string]struct {
		b    api.Board
		l    []api.Grade
		want int
		e    api.Errno
	}{
		"the example":         {spotted(), []api.Grade{clear, second}, 1, api.OK},
		"the first one":       {spotted(), []api.Grade{any, second, any}, 0, api.OK},
		"twice the same name": {spotted(), []api.Grade{clear, clear, second, second}, 2, api.OK},
		"clear":               {plain("one", "oak", 100, 40), []api.Grade{clear, second}, 0, api.OK},
		"fewer defects":       {spotted(), []api.Grade{{Name: "a", Most: 1, Share: 1000}}, 0, api.ErrNone},
		"so many defects":     {spotted(), []api.Grade{{Name: "a", Most: 2, Share: 1000}}, 0, api.OK},
		"less area":           {spotted(), []api.Grade{{Name: "a", Most: 60, Share: 62}}, 0, api.ErrNone},
		"more area":           {spotted(), []api.Grade{{Name: "a", Most: 60, Share: 63}}, 0, api.OK},
		"so much area":        {with(plain("one", "oak", 100, 40), api.Rect{X2: 2, Y2: 2}), []api.Grade{{Name: "a", Most: 60, Share: 1}}, 0, api.OK},
		"longer":              {spotted(), []api.Grade{{Name: "a", Most: 60, Share: 1000, Clear: 41}}, 0, api.ErrNone},
		"so long":             {spotted(), []api.Grade{{Name: "a", Most: 60, Share: 1000, Clear: 40}}, 0, api.OK},
		"not clear at all":    {allBad, []api.Grade{{Name: "a", Most: 60, Share: 1000, Clear: 1}, any}, 1, api.OK},
		"all of it is bad":    {allBad, []api.Grade{{Name: "a", Most: 60, Share: 999}}, 0, api.ErrNone},
		"no grade":            {spotted(), nil, 0, api.ErrNone},
		"20 grades":           {spotted(), append(slices.Repeat([]api.Grade{clear}, 19), any), 19, api.OK},
		"21 grades":           {spotted(), slices.Repeat([]api.Grade{any}, 21), 0, api.ErrLarge},
		"21 wrong grades":     {spotted(), make([]api.Grade, 21), 0, api.ErrLarge},
		"behind the one":      {spotted(), []api.Grade{any, {}}, 0, api.ErrName},
		"board ahead":         {api.Board{}, make([]api.Grade, 21), 0, api.ErrName},
		"large":               {api.Board{Name: "a", Species: "oak", Length: 600000, Width: 100000, Thick: 1, Defects: []api.Rect{{X2: 599999, Y2: 100000}}}, []api.Grade{{Name: "a", Most: 1, Share: 999}, any}, 1, api.OK},
	} {
		if n, e := timber.GradeOf(x.b, x.l); n != x.want || e != x.e {
			t.Errorf("%s: %d, %d, want %d, %d", name, n, e, x.want, x.e)
		}
	}
}

// P2.5: wrong grades.
func TestGradeErrors(t *testing.T) {
	for _, f := range []field[api.Grade]{
		{"Most", func(g *api.Grade) *int { return &g.Most }, 0, 60},
		{"Share", func(g *api.Grade) *int { return &g.Share }, 0, 1000},
		{"Clear", func(g *api.Grade) *int { return &g.Clear }, 0, 600000},
	} {
		for n, want := range map[int]api.Errno{f.low - 1: api.ErrRange, f.low: api.OK, f.high: api.OK, f.high + 1: api.ErrRange} {
			g := api.Grade{Name: "a", Most: 1, Share: 1, Clear: 1}
			*f.of(&g) = n
			last := api.Grade{Name: "any", Most: 60, Share: 1000}
			if _, e := timber.GradeOf(spotted(), []api.Grade{g, last}); e != want {
				t.Errorf("%s %d: %d, want %d", f.name, n, e, want)
			}
			g.Name = "1"
			if _, e := timber.GradeOf(spotted(), []api.Grade{g, last}); e != api.ErrName {
				t.Errorf("%s %d without a name: %d", f.name, n, e)
			}
			g.Name = "a"
			if _, e := timber.GradeOf(spotted(), []api.Grade{g, {}}); e != max(want, api.ErrRange) && want != api.OK || want == api.OK && e != api.ErrName {
				t.Errorf("%s %d ahead of another: %d", f.name, n, e)
			}
		}
	}
	for name, is := range names() {
		want := api.ErrName
		if is {
			want = api.OK
		}
		if _, e := timber.GradeOf(spotted(), []api.Grade{{Name: name, Most: 60, Share: 1000}}); e != want {
			t.Errorf("%q: %d, want %d", name, e, want)
		}
	}
}

// P2.5: a board has the first grade of those whose limits it keeps.
func TestGradeByDefinition(t *testing.T) {
	random := steadily(5)
	for range 1000 {
		b := anyBoard(random)
		var l []api.Grade
		for range random.IntN(4) {
			l = append(l, api.Grade{Name: "g", Most: random.IntN(6), Share: random.IntN(1001), Clear: random.IntN(10)})
		}
		area, _ := timber.Defective(b)
		want := slices.IndexFunc(l, func(g api.Grade) bool {
			long := slices.ContainsFunc(clearOf(b), func(c api.Interval) bool { return c.Hi-c.Lo >= g.Clear })
			return len(b.Defects) <= g.Most && area*1000 <= g.Share*b.Length*b.Width && (long || g.Clear == 0)
		})
		n, e := timber.GradeOf(b, l)
		if want >= 0 && (n != want || e != api.OK) || want < 0 && (n != 0 || e != api.ErrNone) {
			t.Fatalf("%v, %v: %d, %d, want %d", b, l, n, e, want)
		}
	}
}

// P2.5: masses.
func TestMass(t *testing.T) {
	b := api.Board{Name: "one", Species: "oak", Length: 100000, Width: 10000, Thick: 2000, Moisture: 100}
	if m, e := timber.Mass(woods(), b); m != 1540 || e != api.OK {
		t.Errorf("the example: %d, %d", m, e)
	}
	random := steadily(55)
	billion := big.NewInt(1000000)
	for range 1000 {
		l := woods()
		l[1].Density = 1 + random.IntN(2000)
		b := api.Board{Name: "one", Species: "ash", Length: 1 + random.IntN(600000), Width: 1 + random.IntN(100000), Thick: 1 + random.IntN(20000), Moisture: random.IntN(401)}
		if random.IntN(2) == 0 {
			b.Length, b.Width, b.Thick = 1+random.IntN(100000), 1+random.IntN(10000), 1+random.IntN(500)
		}
		want := big.NewInt(int64(b.Length * b.Width * b.Thick))
		want.Mul(want, big.NewInt(int64(l[1].Density)))
		want.Div(want.Div(want, billion), billion)
		want.Div(want.Mul(want, big.NewInt(int64(1000+b.Moisture))), big.NewInt(1000))
		if m, e := timber.Mass(l, b); int64(m) != want.Int64() || e != api.OK {
			t.Fatalf("%v of %v: %d, %d, want %d", b, l[1], m, e, want)
		}
	}
	heavy := []api.Species{{Name: "oak", Density: 2000, Stiffness: 1, Strength: 1}}
	largest := api.Board{Name: "one", Species: "oak", Length: 600000, Width: 100000, Thick: 20000, Moisture: 400}
	if m, e := timber.Mass(heavy, largest); m != 3360000 || e != api.OK {
		t.Errorf("the largest: %d, %d", m, e)
	}
	// 999999999999 parts of a gram, of which there are 10^12.
	l := []api.Species{{Name: "oak", Density: 1, Stiffness: 1, Strength: 1}}
	if m, e := timber.Mass(l, api.Board{Name: "one", Species: "oak", Length: 267327, Width: 37037, Thick: 101, Moisture: 400}); m != 0 || e != api.OK {
		t.Errorf("nearly a gram: %d, %d", m, e)
	}
	// Both times down: 1.9998 grams are 1, and 1.399 of that are 1 again.
	small := api.Board{Name: "one", Species: "oak", Length: 100, Width: 9999, Thick: 1000, Moisture: 399}
	if m, e := timber.Mass(heavy, small); m != 1 || e != api.OK {
		t.Errorf("rounding: %d, %d", m, e)
	}
	if m, e := timber.Mass(woods(), api.Board{Name: "one", Species: "elm", Length: 1, Width: 1, Thick: 1}); m != 0 || e != api.ErrMissing {
		t.Errorf("elm: %d, %d", m, e)
	}
}
