package fit_test

import (
	"math"
	"strconv"
	"strings"
	"testing"

	"spokeshave/api"
	"spokeshave/fit"
)

// P6.1: the ranges of a piece; all functions with a piece keep them.
func TestCheckMade(t *testing.T) {
	for _, x := range []struct {
		p    api.Made
		want api.Errno
	}{
		{api.Made{}, api.OK},
		{api.Made{Size: 600000, Rate: 2000, Moisture: 400, Group: 19, Minus: 600000}, api.OK},
		{api.Made{Plus: 600000}, api.OK},
		{api.Made{Size: 200000, Minus: 200000, Plus: 400000}, api.OK},
		{api.Made{Size: -1}, api.ErrRange},
		{api.Made{Size: 600001}, api.ErrRange},
		{api.Made{Size: 1, Rate: -1}, api.ErrRange},
		{api.Made{Size: 1, Rate: 2001}, api.ErrRange},
		{api.Made{Size: 1, Moisture: -1}, api.ErrRange},
		{api.Made{Size: 1, Moisture: 401}, api.ErrRange},
		{api.Made{Size: 1, Group: -1}, api.ErrRange},
		{api.Made{Size: 1, Group: 20}, api.ErrRange},
		{api.Made{Size: 1, Minus: -1}, api.ErrRange},
		{api.Made{Size: 1, Minus: 2}, api.ErrRange},
		{api.Made{Size: 1, Plus: -1}, api.ErrRange},
		{api.Made{Size: 1, Plus: 600000}, api.ErrRange},
		{api.Made{Size: 600000, Plus: 1}, api.ErrRange},
		{api.Made{Size: math.MinInt, Minus: math.MinInt}, api.ErrRange},
		{api.Made{Size: math.MaxInt, Plus: math.MinInt}, api.ErrRange},
	} {
		if e := fit.CheckMade(x.p); e != x.want {
			t.Errorf("%v: %d, want %d", x.p, e, x.want)
		}
		for name, call := range callsWithMade() {
			if e := call(x.p); e != x.want {
				t.Errorf("%s, %v: %d, want %d", name, x.p, e, x.want)
			}
		}
	}
}

// callsWithMade are all ways to give a piece to the functions.
func callsWithMade() map[string]func(p api.Made) api.Errno {
	good := api.Made{Size: 100}
	return map[string]func(p api.Made) api.Errno{
		"SizeAt":   func(p api.Made) api.Errno { _, e := fit.SizeAt(p, 80); return e },
		"SizeOver": func(p api.Made) api.Errno { _, e := fit.SizeOver(p, year()); return e },
		"Slot":     func(p api.Made) api.Errno { _, e := fit.Slot(p, 500, nil); return e },
		"Stack":    func(p api.Made) api.Errno { _, e := fit.Stack([]api.Made{good, p}); return e },
		"Likely":   func(p api.Made) api.Errno { _, e := fit.Likely([]api.Made{good, p}, 5); return e },
		"outer": func(p api.Made) api.Errno {
			return fit.CheckFit(api.Fit{Name: "a", Outer: []api.Made{good, p}, Inner: []api.Made{good}})
		},
		"inner": func(p api.Made) api.Errno {
			return fit.CheckFit(api.Fit{Name: "a", Outer: []api.Made{good}, Inner: []api.Made{good, p}})
		},
		"width":   func(p api.Made) api.Errno { return fit.CheckPanel(api.Panel{Width: p, Opening: good}) },
		"opening": func(p api.Made) api.Errno { return fit.CheckPanel(api.Panel{Width: good, Opening: p}) },
	}
}

// P6.1: names of fits and of seasons.
func TestNames(t *testing.T) {
	for name, is := range names() {
		want := api.ErrName
		if is {
			want = api.OK
		}
		f, s := drawer(), year()
		f.Name, s.Name = name, name
		if e := fit.CheckFit(f); e != want {
			t.Errorf("fit %q: %d, want %d", name, e, want)
		}
		if e := fit.CheckSeasons([]api.Season{s}); e != want {
			t.Errorf("season %q: %d, want %d", name, e, want)
		}
	}
}

// P6.1: how many pieces a fit has, and its limits.
func TestCheckFit(t *testing.T) {
	some := func(n int) []api.Made { return make([]api.Made, n) }
	for _, x := range []struct {
		f    api.Fit
		want api.Errno
	}{
		{api.Fit{Name: "a"}, api.OK},
		{api.Fit{Name: "a", Outer: some(20)}, api.OK},
		{api.Fit{Name: "a", Outer: some(7), Inner: some(13)}, api.OK},
		{api.Fit{Name: "a", Outer: some(21)}, api.ErrLarge},
		{api.Fit{Name: "a", Inner: some(21)}, api.ErrLarge},
		{api.Fit{Name: "a", Outer: some(10), Inner: some(11)}, api.ErrLarge},
		{api.Fit{Name: "a", Least: -600000, Most: 600000}, api.OK},
		{api.Fit{Name: "a", Least: 600000, Most: 600000}, api.OK},
		{api.Fit{Name: "a", Least: -600000, Most: -600000}, api.OK},
		{api.Fit{Name: "a", Least: -600001}, api.ErrRange},
		{api.Fit{Name: "a", Least: 600001}, api.ErrRange},
		{api.Fit{Name: "a", Most: -600001}, api.ErrRange},
		{api.Fit{Name: "a", Most: 600001}, api.ErrRange},
		{api.Fit{Name: "a", Least: 1}, api.ErrOrder},
		{api.Fit{Name: "a", Least: 5, Most: 5}, api.OK},
		{api.Fit{Name: "a", Least: 5, Most: 4}, api.ErrOrder},
	} {
		if e := fit.CheckFit(x.f); e != x.want {
			t.Errorf("%v: %d, want %d", x.f, e, x.want)
		}
	}
}

// manyFits returns fits with different names.
func manyFits(n int) []api.Fit {
	l := make([]api.Fit, n)
	for i := range l {
		l[i] = drawer()
		l[i].Name = "f" + strconv.Itoa(i)
	}
	return l
}

// manySeasons returns seasons with different names.
func manySeasons(n int) []api.Season {
	l := make([]api.Season, n)
	for i := range l {
		l[i] = year()
		l[i].Name = "s" + strconv.Itoa(i)
	}
	return l
}

// P6.1: lists of fits.
func TestCheckFits(t *testing.T) {
	nameless, turned, other := drawer(), drawer(), drawer()
	nameless.Name, nameless.Least = "", 600001
	turned.Least = 501
	other.Name = "Drawer"
	for name, x := range map[string]struct {
		l    []api.Fit
		want api.Errno
	}{
		"none":                     {nil, api.OK},
		"60":                       {manyFits(60), api.OK},
		"61":                       {manyFits(61), api.ErrLarge},
		"61 without names":         {make([]api.Fit, 61), api.ErrLarge},
		"twice":                    {[]api.Fit{drawer(), drawer()}, api.ErrExists},
		"twice, apart":             {[]api.Fit{drawer(), other, drawer()}, api.ErrExists},
		"large and small letters":  {[]api.Fit{drawer(), other}, api.OK},
		"error ahead of twice":     {[]api.Fit{drawer(), turned}, api.ErrOrder},
		"twice ahead of next":      {[]api.Fit{drawer(), drawer(), nameless}, api.ErrExists},
		"order ahead of next name": {[]api.Fit{other, turned, nameless}, api.ErrOrder},
		"name ahead of next order": {[]api.Fit{other, nameless, turned}, api.ErrName},
	} {
		if e := fit.CheckFits(x.l); e != x.want {
			t.Errorf("%s: %d, want %d", name, e, x.want)
		}
	}
}

// P6.1: lists of seasons.
func TestCheckSeasons(t *testing.T) {
	season := func(name string, low, high int) api.Season { return api.Season{Name: name, Low: low, High: high} }
	for name, x := range map[string]struct {
		l    []api.Season
		want api.Errno
	}{
		"none":                     {nil, api.OK},
		"24":                       {manySeasons(24), api.OK},
		"25":                       {manySeasons(25), api.ErrLarge},
		"25 without names":         {make([]api.Season, 25), api.ErrLarge},
		"twice":                    {[]api.Season{season("a", 0, 5), season("b", 0, 5), season("a", 6, 7)}, api.ErrExists},
		"order ahead of twice":     {[]api.Season{season("a", 0, 5), season("a", 6, 5)}, api.ErrOrder},
		"twice ahead of next":      {[]api.Season{season("a", 0, 5), season("a", 0, 5), season("1", 0, 5)}, api.ErrExists},
		"order ahead of next name": {[]api.Season{season("a", 6, 5), season("1", 0, 5)}, api.ErrOrder},
		"large and small letters":  {[]api.Season{season("a", 0, 5), season("A", 0, 5)}, api.OK},
		"longest names":            {[]api.Season{season(strings.Repeat("a", 12), 0, 5), season(strings.Repeat("a", 13), 0, 5)}, api.ErrName},
	} {
		if e := fit.CheckSeasons(x.l); e != x.want {
			t.Errorf("%s: %d, want %d", name, e, x.want)
		}
	}
}
