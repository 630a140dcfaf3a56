package fit_test

import (
	"math/big"
	"reflect"
	"slices"
	"testing"

	"spokeshave/api"
	"spokeshave/fit"
)

// holds reports whether a fit holds, and returns the break if not.
func holds(t *testing.T, f api.Fit, l ...api.Season) (bool, api.Break) {
	t.Helper()
	is, b, e := fit.Holds(f, l)
	if e != api.OK {
		t.Fatalf("Holds %v, %v: %d", f, l, e)
	}
	if is && !reflect.DeepEqual(b, api.Break{}) {
		t.Fatalf("Holds %v, %v: a break %v of what holds", f, l, b)
	}
	return is, b
}

// P6.4: examples 3 and 6 of the chapter.
func TestHoldsExamples(t *testing.T) {
	is, b := holds(t, panelFits(t, 1000)[0], year())
	if want := (api.Break{Side: -1, Moistures: []int{120, 60}}); is || !reflect.DeepEqual(b, want) {
		t.Errorf("bottom: %v, %v, want %v", is, b, want)
	}
	if is, b := holds(t, panelFits(t, 1015)[0], year()); !is {
		t.Errorf("bottom with 1015: %v", b)
	}
	is, b = holds(t, drawer(), api.Season{Name: "a", Low: 100, High: 100})
	if want := (api.Break{Side: -1, Moistures: []int{100}}); is || !reflect.DeepEqual(b, want) {
		t.Errorf("drawer: %v, %v, want %v", is, b, want)
	}
}

// P6.4: limits are compared with exact clearances: that of the drawer is from -108.86 to -88.74 at 100.
func TestHoldsExactly(t *testing.T) {
	at100 := api.Season{Name: "a", Low: 100, High: 100}
	for _, x := range []struct {
		least, most int
		side        int
	}{{-109, -88, 0}, {-108, -88, -1}, {-109, -89, 1}, {-108, -89, -1}, {-600000, 600000, 0}, {0, 0, -1}, {-200, -200, 1}} {
		f := drawer()
		f.Least, f.Most = x.least, x.most
		is, b := holds(t, f, at100)
		if is != (x.side == 0) || b.Side != x.side {
			t.Errorf("%d to %d: %v, %v", x.least, x.most, is, b)
		}
	}
	// A whole clearance is from Least to Most with its ends.
	f := api.Fit{Name: "a", Outer: []api.Made{{Size: 30, Minus: 2, Plus: 3}}}
	for _, x := range [][3]int{{28, 33, 0}, {29, 33, -1}, {28, 32, 1}} {
		f.Least, f.Most = x[0], x[1]
		if is, b := holds(t, f, year()); is != (x[2] == 0) || b.Side != x[2] {
			t.Errorf("%v: %v, %v", x, is, b)
		}
	}
}

// P6.3, P6.4: a millionth of a hundredth counts.
func TestMillionth(t *testing.T) {
	board := api.Made{Size: 1, Rate: 1, Moisture: 80}
	for _, x := range []struct {
		f              api.Fit
		moisture, side int
		over           api.Interval
	}{
		{api.Fit{Outer: []api.Made{board}, Least: 1, Most: 1}, 79, -1, api.Interval{Lo: 0, Hi: 1}},
		{api.Fit{Outer: []api.Made{board}, Least: 1, Most: 1}, 80, 0, api.Interval{Lo: 1, Hi: 1}},
		{api.Fit{Outer: []api.Made{board}, Least: 1, Most: 1}, 81, 1, api.Interval{Lo: 1, Hi: 2}},
		{api.Fit{Inner: []api.Made{board}, Least: -1, Most: -1}, 79, 1, api.Interval{Lo: -1, Hi: 0}},
		{api.Fit{Inner: []api.Made{board}, Least: -1, Most: -1}, 80, 0, api.Interval{Lo: -1, Hi: -1}},
		{api.Fit{Inner: []api.Made{board}, Least: -1, Most: -1}, 81, -1, api.Interval{Lo: -2, Hi: -1}},
	} {
		x.f.Name = "a"
		l := []api.Season{{Name: "a", Low: x.moisture, High: x.moisture}}
		if is, b := holds(t, x.f, l...); is != (x.side == 0) || b.Side != x.side {
			t.Errorf("%v at %d: %v, %v", x.f, x.moisture, is, b)
		}
		for side := -1; side <= 1; side += 2 {
			want := api.ErrProof
			if side == x.side {
				want = api.OK
			}
			if e := fit.CheckBreak([]api.Fit{x.f}, l, api.Break{Side: side, Moistures: []int{x.moisture}}); e != want {
				t.Errorf("%v at %d: CheckBreak, side %d: %d, want %d", x.f, x.moisture, side, e, want)
			}
		}
		if r, e := fit.Clearance(x.f, []int{x.moisture}); r != x.over || e != api.OK {
			t.Errorf("%v at %d: %v, %d, want %v", x.f, x.moisture, r, e, x.over)
		}
		if r, e := fit.ClearanceOver(x.f, l[0]); r != x.over || e != api.OK {
			t.Errorf("%v at %d: over %v, %d, want %v", x.f, x.moisture, r, e, x.over)
		}
	}
}

// P6.4: the first season that breaks a fit, and -1 ahead of 1 in it.
func TestHoldsFirst(t *testing.T) {
	board := api.Made{Size: 10000, Rate: 300, Moisture: 80}
	f := api.Fit{Name: "a", Outer: []api.Made{board}, Least: 9990, Most: 10010}
	mild := api.Season{Name: "mild", Low: 79, High: 81}
	wet := api.Season{Name: "wet", Low: 80, High: 120}
	dry := api.Season{Name: "dry", Low: 40, High: 80}
	for _, x := range []struct {
		l    []api.Season
		want api.Break
	}{
		{[]api.Season{mild, wet, dry}, api.Break{Season: 1, Side: 1, Moistures: []int{120}}},
		{[]api.Season{mild, dry, wet}, api.Break{Season: 1, Side: -1, Moistures: []int{40}}},
		{[]api.Season{wet, mild, dry}, api.Break{Season: 0, Side: 1, Moistures: []int{120}}},
		{[]api.Season{mild, {Name: "both", Low: 40, High: 120}}, api.Break{Season: 1, Side: -1, Moistures: []int{40}}},
	} {
		if is, b := holds(t, f, x.l...); is || !reflect.DeepEqual(b, x.want) {
			t.Errorf("%v: %v, %v, want %v", x.l, is, b, x.want)
		}
	}
	if is, _ := holds(t, f, mild); !is {
		t.Error("mild")
	}
	// The same seasons with the piece inside.
	f = api.Fit{Name: "a", Inner: []api.Made{board}, Least: -10010, Most: -9990}
	if is, b := holds(t, f, mild, wet); is || !reflect.DeepEqual(b, api.Break{Season: 1, Side: -1, Moistures: []int{120}}) {
		t.Errorf("inside, wet: %v, %v", is, b)
	}
	if is, b := holds(t, f, mild, dry); is || !reflect.DeepEqual(b, api.Break{Season: 1, Side: 1, Moistures: []int{40}}) {
		t.Errorf("inside, dry: %v, %v", is, b)
	}
}

// P6.4: no pieces, and no seasons.
func TestHoldsNothing(t *testing.T) {
	for _, x := range []struct{ least, most, side int }{{0, 0, 0}, {-5, 5, 0}, {1, 5, -1}, {-5, -1, 1}} {
		f := api.Fit{Name: "a", Least: x.least, Most: x.most}
		is, b := holds(t, f, year())
		if is != (x.side == 0) || b.Side != x.side || len(b.Moistures) > 0 {
			t.Errorf("no pieces, %v: %v, %v", x, is, b)
		}
		if e := fit.CheckBreak([]api.Fit{f}, []api.Season{year()}, b); x.side != 0 && e != api.OK {
			t.Errorf("no pieces, %v: CheckBreak %d", x, e)
		}
		if is, _ := holds(t, f); !is {
			t.Errorf("no seasons, %v", x)
		}
	}
	if l, e := fit.All(manyFits(3), nil); len(l) > 0 || e != api.OK {
		t.Errorf("All without seasons: %v, %d", l, e)
	}
	if l, e := fit.All(nil, []api.Season{year()}); len(l) > 0 || e != api.OK {
		t.Errorf("All without fits: %v, %d", l, e)
	}
}

// P6.4: the standard break has Low for a group that makes no difference, also where both ends are above Saturation.
func TestStandardBreakLow(t *testing.T) {
	f := api.Fit{
		Name: "a",
		Outer: []api.Made{
			{Size: 100, Group: 9},                           // does not move
			{Size: 100, Rate: 5, Group: 3},                  // rises
			{Size: 100, Rate: 5, Group: 5},                  // rises and falls alike
			{Size: 0, Rate: 2000, Group: 8},                 // is nothing
			{Size: 100, Rate: 5, Group: 2},                  // rises
			{Size: 7, Minus: 7, Rate: 5, Plus: 1, Group: 7}, // may be nothing
		},
		Inner: []api.Made{
			{Size: 100, Rate: 5, Group: 1}, // falls
			{Size: 100, Rate: 5, Group: 5},
			{Size: 101, Rate: 5, Group: 2}, // falls more than it rises
		},
		Least: 500, Most: 500,
	}
	l := []api.Season{{Name: "a", Low: 10, High: 200}, {Name: "b", Low: 280, High: 400}, {Name: "c", Low: 279, High: 281}}
	breaks, e := fit.All([]api.Fit{f}, l)
	want := []api.Break{ // of the groups 1, 2, 3, 5, 7, 8, 9
		{Season: 0, Side: -1, Moistures: []int{200, 200, 10, 10, 10, 10, 10}},
		{Season: 1, Side: -1, Moistures: []int{280, 280, 280, 280, 280, 280, 280}},
		{Season: 2, Side: -1, Moistures: []int{281, 281, 279, 279, 279, 279, 279}},
	}
	if !reflect.DeepEqual(breaks, want) || e != api.OK {
		t.Errorf("too little: %v, %d, want %v", breaks, e, want)
	}
	f.Least, f.Most = -500, -500
	breaks, e = fit.All([]api.Fit{f}, l)
	want = []api.Break{
		{Season: 0, Side: 1, Moistures: []int{10, 10, 200, 10, 200, 10, 10}},
		{Season: 1, Side: 1, Moistures: []int{280, 280, 280, 280, 280, 280, 280}},
		{Season: 2, Side: 1, Moistures: []int{279, 279, 281, 279, 281, 279, 279}},
	}
	if !reflect.DeepEqual(breaks, want) || e != api.OK {
		t.Errorf("too much: %v, %d, want %v", breaks, e, want)
	}
}

// standard is the definition of the standard break: the moistures of a side, and whether they break the fit.
func standard(f api.Fit, s api.Season, side int) ([]int, bool) {
	excess := func(at map[int]int) *big.Rat { // above 0 if it is broken
		least, greatest := leastAndGreatest(f, at)
		if side < 0 {
			return least.Sub(whole(f.Least), least)
		}
		return greatest.Sub(greatest, whole(f.Most))
	}
	at := map[int]int{}
	for _, g := range groupsIn(f) {
		at[g] = s.Low
	}
	var moistures []int
	for _, g := range groupsIn(f) {
		low := excess(at)
		at[g] = s.High
		if excess(at).Cmp(low) <= 0 {
			at[g] = s.Low
		}
		moistures = append(moistures, at[g])
	}
	return moistures, excess(at).Sign() > 0
}

// P6.4, P6.9: All has the standard breaks of the definition, Holds the first of them; a fit is broken just if some moistures of the season break it; and CheckBreak accepts all breaks.
func TestBreaksByDefinition(t *testing.T) {
	random := steadily(4)
	count := map[int]int{}
	for range 600 {
		fits := make([]api.Fit, random.IntN(4))
		for i := range fits {
			fits[i] = anyFit(random)
			fits[i].Name = string(rune('a' + i))
		}
		l := anySeasons(random)
		var want []api.Break
		for i, f := range fits {
			var of []api.Break
			for j, s := range l {
				least, greatest := overSeason(f, s)
				for _, side := range []int{-1, 1} {
					moistures, broken := standard(f, s, side)
					if some := side < 0 && least.Cmp(whole(f.Least)) < 0 || side > 0 && greatest.Cmp(whole(f.Most)) > 0; some != broken {
						t.Fatalf("%v in %v, side %d: %v, but at all moistures %v", f, s, side, broken, some)
					}
					if broken {
						of = append(of, api.Break{Fit: i, Season: j, Side: side, Moistures: moistures})
						count[side]++
					}
				}
			}
			want = append(want, of...)
			is, b := holds(t, f, l...)
			if len(of) > 0 {
				of[0].Fit = 0
			}
			if is != (len(of) == 0) || !is && !sameBreak(b, of[0]) {
				t.Fatalf("Holds %v, %v: %v, %v, want %v", f, l, is, b, of)
			}
		}
		got, e := fit.All(fits, l)
		if !slices.EqualFunc(got, want, sameBreak) || e != api.OK {
			t.Fatalf("All %v, %v: %v, %d, want %v", fits, l, got, e, want)
		}
		for _, b := range got {
			if e := fit.CheckBreak(fits, l, b); e != api.OK {
				t.Fatalf("CheckBreak %v, %v, %v: %d", fits, l, b, e)
			}
		}
	}
	if count[-1] < 100 || count[1] < 100 {
		t.Errorf("too few breaks to tell: %v", count)
	}
}

// sameBreak compares breaks; a nil list is an empty one.
func sameBreak(a, b api.Break) bool {
	return a.Fit == b.Fit && a.Season == b.Season && a.Side == b.Side && slices.Equal(a.Moistures, b.Moistures)
}

// P6.4: CheckBreak accepts just the breaks, at any moistures of the season.
func TestCheckBreakByDefinition(t *testing.T) {
	random := steadily(44)
	accepted := 0
	for range 800 {
		f, l := anyFit(random), anySeasons(random)
		for j, s := range l {
			for at := range everyMoisture(groupsIn(f), moisturesOf(s)...) {
				var moistures []int
				for _, g := range groupsIn(f) {
					moistures = append(moistures, at[g])
				}
				least, greatest := leastAndGreatest(f, at)
				for side, broken := range map[int]bool{-1: least.Cmp(whole(f.Least)) < 0, 1: greatest.Cmp(whole(f.Most)) > 0} {
					want := api.ErrProof
					if broken {
						want = api.OK
						accepted++
					}
					b := api.Break{Season: j, Side: side, Moistures: moistures}
					if e := fit.CheckBreak([]api.Fit{f}, l, b); e != want {
						t.Fatalf("%v, %v, %v: %d, want %d", f, l, b, e, want)
					}
				}
			}
		}
	}
	if accepted < 100 {
		t.Errorf("too few breaks to tell: %d", accepted)
	}
}

// P6.4: breaks that are none.
func TestCheckBreakErrors(t *testing.T) {
	fits := []api.Fit{drawer(), panelFits(t, 1000)[0]}
	l := []api.Season{{Name: "dry", Low: 60, High: 80}, year()}
	good := api.Break{Fit: 1, Season: 1, Side: -1, Moistures: []int{120, 60}}
	for name, x := range map[string]struct {
		change func(b *api.Break)
		want   api.Errno
	}{
		"good":                  {func(b *api.Break) {}, api.OK},
		"not a standard one":    {func(b *api.Break) { b.Moistures = []int{119, 77} }, api.OK},
		"fit below":             {func(b *api.Break) { b.Fit = -1 }, api.ErrMissing},
		"fit above":             {func(b *api.Break) { b.Fit = 2 }, api.ErrMissing},
		"season below":          {func(b *api.Break) { b.Season = -1 }, api.ErrMissing},
		"season above":          {func(b *api.Break) { b.Season = 2 }, api.ErrMissing},
		"other fit":             {func(b *api.Break) { b.Fit = 0 }, api.ErrShape},
		"no moistures":          {func(b *api.Break) { b.Moistures = nil }, api.ErrShape},
		"one moisture":          {func(b *api.Break) { b.Moistures = []int{120} }, api.ErrShape},
		"a moisture for each":   {func(b *api.Break) { b.Moistures = []int{120, 60, 60} }, api.ErrShape},
		"below the season":      {func(b *api.Break) { b.Moistures[1] = 59 }, api.ErrRange},
		"above the season":      {func(b *api.Break) { b.Moistures[0] = 121 }, api.ErrRange},
		"of the other season":   {func(b *api.Break) { b.Season = 0 }, api.ErrRange},
		"no side":               {func(b *api.Break) { b.Side = 0 }, api.ErrRange},
		"side 2":                {func(b *api.Break) { b.Side = 2 }, api.ErrRange},
		"side -2":               {func(b *api.Break) { b.Side = -2 }, api.ErrRange},
		"the other side":        {func(b *api.Break) { b.Side = 1 }, api.ErrProof},
		"moistures that are ok": {func(b *api.Break) { b.Moistures = []int{117, 60} }, api.ErrProof}, // 40500 - 40444 = 56
		"moistures exchanged":   {func(b *api.Break) { b.Moistures = []int{60, 120} }, api.ErrProof},
	} {
		b := good
		b.Moistures = slices.Clone(good.Moistures)
		x.change(&b)
		if e := fit.CheckBreak(fits, l, b); e != x.want {
			t.Errorf("%s, %v: %d, want %d", name, b, e, x.want)
		}
	}
	if e := fit.CheckBreak(nil, nil, api.Break{}); e != api.ErrMissing {
		t.Errorf("of nothing: %d", e)
	}
}

// P6.9: what holds in a season holds in every part of it, with less tolerance, and for each true size; P6.11: and exchanged.
func TestHoldingConsequences(t *testing.T) {
	random := steadily(9)
	held := 0
	for range 3000 {
		f := anyFit(random)
		s := api.Season{Name: "a", Low: random.IntN(300)}
		s.High = s.Low + random.IntN(60)
		is, _ := holds(t, f, s)
		turned := api.Fit{Name: "a", Outer: f.Inner, Inner: f.Outer, Least: -f.Most, Most: -f.Least}
		if now, b := holds(t, turned, s); now != is {
			t.Fatalf("%v in %v: %v, exchanged %v, %v", f, s, is, now, b)
		}
		if !is {
			continue
		}
		held++
		part := api.Season{Name: "a", Low: s.Low + random.IntN(s.High-s.Low+1)}
		part.High = part.Low + random.IntN(s.High-part.Low+1)
		at := map[int]int{}
		for _, g := range groupsIn(f) {
			at[g] = s.Low + random.IntN(s.High-s.Low+1)
		}
		trueSizes := func(l []api.Made, sum *big.Rat, sign int64) []api.Made {
			l = slices.Clone(l)
			for i, p := range l {
				size := p.Size - p.Minus + random.IntN(p.Minus+p.Plus+1)
				sum.Add(sum, new(big.Rat).Mul(exactly(size, p, at[p.Group]), big.NewRat(sign, 1)))
				l[i].Minus, l[i].Plus = random.IntN(p.Minus+1), random.IntN(p.Plus+1)
			}
			return l
		}
		sum := new(big.Rat)
		better := f
		better.Outer, better.Inner = trueSizes(f.Outer, sum, 1), trueSizes(f.Inner, sum, -1)
		if sum.Cmp(whole(f.Least)) < 0 || sum.Cmp(whole(f.Most)) > 0 {
			t.Fatalf("%v in %v at %v: a clearance of %v", f, s, at, sum)
		}
		if now, b := holds(t, better, part); !now {
			t.Fatalf("%v in %v, but not %v in %v: %v", f, s, better, part, b)
		}
	}
	if held < 100 {
		t.Errorf("too few that hold to tell: %d", held)
	}
}

// P6.10: All is empty just if Holds is true for each fit.
func TestAllAndHolds(t *testing.T) {
	random := steadily(10)
	for range 300 {
		fits := []api.Fit{anyFit(random), anyFit(random)}
		fits[1].Name = "other"
		l := anySeasons(random)
		first, _ := holds(t, fits[0], l...)
		second, _ := holds(t, fits[1], l...)
		if breaks, e := fit.All(fits, l); (len(breaks) == 0) != (first && second) || e != api.OK {
			t.Fatalf("%v, %v: %v, %d, but %v, %v", fits, l, breaks, e, first, second)
		}
	}
}

// P6.5: the first seasons with the least and with the greatest clearance.
func TestWorst(t *testing.T) {
	f := api.Fit{Name: "a", Outer: []api.Made{{Size: 101, Rate: 300, Moisture: 80}}}
	season := func(name string, low, high int) api.Season { return api.Season{Name: name, Low: low, High: high} }
	for _, x := range []struct {
		l    []api.Season
		want [2]int
		over api.Interval
	}{
		{[]api.Season{season("a", 80, 81)}, [2]int{0, 0}, api.Interval{Lo: 101, Hi: 102}},
		{[]api.Season{season("a", 80, 81), season("b", 79, 80)}, [2]int{1, 0}, api.Interval{Lo: 100, Hi: 102}},
		{[]api.Season{season("a", 79, 80), season("b", 80, 81)}, [2]int{0, 1}, api.Interval{Lo: 100, Hi: 102}},
		{[]api.Season{season("a", 80, 81), season("b", 80, 81)}, [2]int{0, 0}, api.Interval{Lo: 101, Hi: 102}},
		{[]api.Season{season("a", 80, 81), season("b", 80, 82)}, [2]int{0, 1}, api.Interval{Lo: 101, Hi: 102}}, // the same when rounded
		{[]api.Season{season("a", 79, 79), season("b", 78, 78)}, [2]int{1, 0}, api.Interval{Lo: 100, Hi: 101}},
		{[]api.Season{season("a", 279, 280), season("b", 279, 300)}, [2]int{0, 0}, api.Interval{Lo: 107, Hi: 108}},
		{[]api.Season{season("a", 100, 100), season("b", 90, 110), season("c", 90, 120), season("d", 85, 120)}, [2]int{3, 2}, api.Interval{Lo: 101, Hi: 103}},
	} {
		if n, r, e := fit.Worst(f, x.l); n != x.want || r != x.over || e != api.OK {
			t.Errorf("%v: %v, %v, %d, want %v, %v", x.l, n, r, e, x.want, x.over)
		}
	}
	if n, r, e := fit.Worst(f, nil); n != [2]int{} || r != (api.Interval{}) || e != api.ErrNone {
		t.Errorf("no seasons: %v, %v, %d", n, r, e)
	}
	if n, r, e := fit.Worst(api.Fit{Name: "a"}, manySeasons(2)); n != [2]int{} || r != (api.Interval{}) || e != api.OK {
		t.Errorf("no pieces: %v, %v, %d", n, r, e)
	}
}

// P6.5: Worst is that of the definition.
func TestWorstByDefinition(t *testing.T) {
	random := steadily(5)
	for range 600 {
		f, l := anyFit(random), anySeasons(random)
		if len(l) == 0 {
			continue
		}
		var want [2]int
		least, greatest := overSeason(f, l[0])
		for i, s := range l {
			low, high := overSeason(f, s)
			if low.Cmp(least) < 0 {
				want[0], least = i, low
			}
			if high.Cmp(greatest) > 0 {
				want[1], greatest = i, high
			}
		}
		if n, r, e := fit.Worst(f, l); n != want || r != around(least, greatest) || e != api.OK {
			t.Fatalf("%v, %v: %v, %v, %d, want %v", f, l, n, r, e, want)
		}
	}
}
