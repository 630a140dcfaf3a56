package timber_test

import (
	"strconv"
	"testing"

	"spokeshave/api"
	"spokeshave/timber"
)

// speciesFields are the numbers of a species with their ranges.
func speciesFields() []field[api.Species] {
	return []field[api.Species]{
		{"Along", func(s *api.Species) *int { return &s.Along }, 0, 2000},
		{"Across", func(s *api.Species) *int { return &s.Across }, 0, 2000},
		{"Radial", func(s *api.Species) *int { return &s.Radial }, 0, 2000},
		{"Density", func(s *api.Species) *int { return &s.Density }, 1, 2000},
		{"Stiffness", func(s *api.Species) *int { return &s.Stiffness }, 1, 100000},
		{"Strength", func(s *api.Species) *int { return &s.Strength }, 1, 1000},
	}
}

// P2.1: the ranges of a species.
func TestRangesOfSpecies(t *testing.T) {
	for _, f := range speciesFields() {
		for n, want := range map[int]api.Errno{f.low - 1: api.ErrRange, f.low: api.OK, f.high: api.OK, f.high + 1: api.ErrRange} {
			s := oak()
			*f.of(&s) = n
			if e := timber.CheckSpecies([]api.Species{s}); e != want {
				t.Errorf("%s %d: %d, want %d", f.name, n, e, want)
			}
			if _, e := timber.Rate(s, 0, 0); e != want {
				t.Errorf("Rate with %s %d: %d, want %d", f.name, n, e, want)
			}
		}
	}
}

// P2.1: names.
func TestNamesOfSpecies(t *testing.T) {
	for name, is := range names() {
		s := oak()
		s.Name = name
		e := timber.CheckSpecies([]api.Species{s})
		if want := api.ErrName; is && e != api.OK || !is && e != want {
			t.Errorf("%q: %d", name, e)
		}
	}
}

// many returns species with different names.
func many(n int) []api.Species {
	var l []api.Species
	for i := range n {
		s := oak()
		s.Name = "w" + strconv.Itoa(i)
		l = append(l, s)
	}
	return l
}

// P2.1: which error of a list comes first.
func TestCheckSpecies(t *testing.T) {
	nameless, weak := oak(), oak()
	nameless.Name, nameless.Strength = "", 0
	weak.Strength = 0
	other := oak()
	other.Name = "elm"
	for name, x := range map[string]struct {
		l    []api.Species
		want api.Errno
	}{
		"none":                     {nil, api.OK},
		"some":                     {woods(), api.OK},
		"40":                       {many(40), api.OK},
		"41":                       {many(41), api.ErrLarge},
		"41 without a name":        {make([]api.Species, 41), api.ErrLarge},
		"name ahead of range":      {[]api.Species{nameless}, api.ErrName},
		"range ahead of twice":     {[]api.Species{oak(), weak}, api.ErrRange},
		"twice":                    {[]api.Species{oak(), oak()}, api.ErrExists},
		"twice, apart":             {[]api.Species{oak(), other, oak()}, api.ErrExists},
		"twice ahead of a name":    {[]api.Species{oak(), oak(), nameless}, api.ErrExists},
		"range ahead of next name": {[]api.Species{weak, nameless}, api.ErrRange},
		"name ahead of next range": {[]api.Species{nameless, weak}, api.ErrName},
	} {
		if e := timber.CheckSpecies(x.l); e != x.want {
			t.Errorf("%s: %d, want %d", name, e, x.want)
		}
		if x.want == api.OK {
			continue
		}
		if n, e := timber.Find(x.l, "oak"); n != 0 || e != x.want {
			t.Errorf("Find, %s: %d, %d, want %d", name, n, e, x.want)
		}
	}
	upper := oak()
	upper.Name = "Oak"
	if e := timber.CheckSpecies([]api.Species{oak(), upper}); e != api.OK {
		t.Errorf("oak and Oak: %d", e)
	}
}

// P2.1: the numbers of species.
func TestFind(t *testing.T) {
	for want, s := range woods() {
		if n, e := timber.Find(woods(), s.Name); n != want || e != api.OK {
			t.Errorf("%s: %d, %d, want %d", s.Name, n, e, want)
		}
	}
	for _, name := range []string{"elm", "Oak", "oa", "oak2", "", "no name"} {
		if n, e := timber.Find(woods(), name); n != 0 || e != api.ErrMissing {
			t.Errorf("%q: %d, %d", name, n, e)
		}
	}
	if n, e := timber.Find(many(40), "w39"); n != 39 || e != api.OK {
		t.Errorf("w39: %d, %d", n, e)
	}
	if n, e := timber.Find(nil, "oak"); n != 0 || e != api.ErrMissing {
		t.Errorf("of no species: %d, %d", n, e)
	}
}
