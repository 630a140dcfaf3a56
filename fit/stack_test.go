package fit_test

import (
	"testing"

	"spokeshave/api"
	"spokeshave/fit"
)

// P6.7: the lengths of slots.
func TestSlot(t *testing.T) {
	far := api.Made{Size: 20000, Rate: 300, Moisture: 80}
	season := func(low, high int) api.Season { return api.Season{Name: "a", Low: low, High: high} }
	other := func(low, high int) api.Season { return api.Season{Name: "b", Low: low, High: high} }
	for name, x := range map[string]struct {
		p    api.Made
		l    []api.Season
		want int
	}{
		"example 5":        {far, []api.Season{year()}, 860},
		"no seasons":       {far, nil, 500},
		"one moisture":     {far, []api.Season{season(120, 120)}, 500},
		"moistures apart":  {far, []api.Season{season(120, 120), other(60, 60)}, 860},
		"one in the other": {far, []api.Season{season(60, 120), other(80, 100)}, 860},
		"crossing":         {far, []api.Season{season(70, 120), other(60, 110)}, 860},
		"saturation":       {far, []api.Season{season(270, 400)}, 560},
		"above saturation": {far, []api.Season{season(280, 400)}, 500},
		"at rest":          {api.Made{Size: 20000}, []api.Season{year()}, 500},
		"plus alone":       {api.Made{Size: 20000, Rate: 300, Moisture: 80, Minus: 9000, Plus: 100}, []api.Season{year()}, 862}, // 20100 * 0.018 = 361.8
		"rounded up":       {api.Made{Size: 1, Rate: 1}, []api.Season{season(0, 1)}, 501},
		"nothing":          {api.Made{Rate: 2000}, []api.Season{season(0, 400)}, 500},
		"farthest":         {api.Made{Size: 600000, Rate: 2000, Moisture: 400}, []api.Season{season(0, 400)}, 336500},
	} {
		if n, e := fit.Slot(x.p, 500, x.l); n != x.want || e != api.OK {
			t.Errorf("%s: %d, %d, want %d", name, n, e, x.want)
		}
	}
	for _, screw := range []int{1, 10000} {
		if n, e := fit.Slot(far, screw, []api.Season{year()}); n != screw+360 || e != api.OK {
			t.Errorf("screw %d: %d, %d", screw, n, e)
		}
	}
}

// P6.7: slots are as long as the exact sizes at all moistures ask for.
func TestSlotByDefinition(t *testing.T) {
	random := steadily(7)
	for range 500 {
		p, l := anyMade(random), anySeasons(random)
		want := 500
		var moistures []int
		for _, s := range l {
			moistures = append(moistures, moisturesOf(s)...)
		}
		if len(moistures) > 0 {
			least := exactly(p.Size+p.Plus, p, moistures[0])
			greatest := least
			for _, m := range moistures {
				now := exactly(p.Size+p.Plus, p, m)
				if now.Cmp(least) < 0 {
					least = now
				}
				if now.Cmp(greatest) > 0 {
					greatest = now
				}
			}
			difference := greatest.Sub(greatest, least)
			want += around(difference, difference).Hi
		}
		if n, e := fit.Slot(p, 500, l); n != want || e != api.OK {
			t.Fatalf("%v, %v: %d, %d, want %d", p, l, n, e, want)
		}
	}
}

// P6.7, P6.11: stacks.
func TestStack(t *testing.T) {
	random := steadily(77)
	if r, e := fit.Stack(nil); r != (api.Interval{}) || e != api.OK {
		t.Errorf("nothing: %v, %d", r, e)
	}
	if r, e := fit.Stack([]api.Made{{Size: 100, Minus: 3, Plus: 1}, {Size: 50, Rate: 2000, Moisture: 400, Plus: 7}}); r != (api.Interval{Lo: 147, Hi: 158}) || e != api.OK {
		t.Errorf("two pieces: %v, %d", r, e)
	}
	for _, x := range []struct {
		count int
		want  api.Errno
	}{{20, api.OK}, {21, api.ErrLarge}} {
		l := make([]api.Made, x.count)
		for i := range l {
			l[i].Size = 600000
		}
		want := api.Interval{Lo: 12000000, Hi: 12000000}
		if x.want != api.OK {
			want = api.Interval{}
		}
		if r, e := fit.Stack(l); r != want || e != x.want {
			t.Errorf("%d pieces: %v, %d", x.count, r, e)
		}
		if is, e := fit.Likely(l, 0); is != (e == api.OK) || e != x.want {
			t.Errorf("Likely, %d pieces: %v, %d", x.count, is, e)
		}
	}
	for range 200 {
		l := make([]api.Made, random.IntN(21))
		for i := range l {
			l[i] = anyMade(random)
		}
		cut := random.IntN(len(l) + 1)
		first, e := fit.Stack(l[:cut])
		second, f := fit.Stack(l[cut:])
		all, g := fit.Stack(l)
		if all != (api.Interval{Lo: first.Lo + second.Lo, Hi: first.Hi + second.Hi}) || e != api.OK || f != api.OK || g != api.OK {
			t.Fatalf("%v cut at %d: %v and %v, but %v", l, cut, first, second, all)
		}
	}
}

// P6.7: likely tolerances.
func TestLikely(t *testing.T) {
	three := []api.Made{{Size: 10, Minus: 3, Plus: 1}, {Size: 10, Minus: 3, Plus: 1}, {Size: 10, Minus: 3, Plus: 1}}
	square := []api.Made{{Size: 10, Minus: 3}, {Size: 10, Minus: 1, Plus: 3}}
	for name, x := range map[string]struct {
		l     []api.Made
		limit int
		want  bool
	}{
		"example 7":      {three, 7, true},
		"example 7, 6":   {three, 6, false},
		"just":           {square, 5, true},
		"just not":       {square, 4, false},
		"nothing":        {nil, 0, true},
		"no tolerance":   {[]api.Made{{Size: 10}}, 0, true},
		"some tolerance": {[]api.Made{{Size: 10, Plus: 1}}, 0, false},
		"greatest":       {[]api.Made{{Size: 600000, Minus: 600000}}, 600000, true},
		"above greatest": {[]api.Made{{Size: 300000, Minus: 300000, Plus: 300000}, {Plus: 1}}, 600000, false},
	} {
		if is, e := fit.Likely(x.l, x.limit); is != x.want || e != api.OK {
			t.Errorf("%s: %v, %d, want %v", name, is, e, x.want)
		}
	}
}
