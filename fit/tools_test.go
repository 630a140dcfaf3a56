package fit_test

import (
	"iter"
	"maps"
	"math/big"
	"math/rand/v2"
	"slices"

	"spokeshave/api"
)

// year is the season of the chapter's examples.
func year() api.Season { return api.Season{Name: "year", Low: 60, High: 120} }

// drawer is the fit of the chapter's example 6.
func drawer() api.Fit {
	return api.Fit{
		Name:  "drawer",
		Outer: []api.Made{{Size: 50000}},
		Inner: []api.Made{{Size: 49800, Rate: 300, Moisture: 80, Minus: 10, Plus: 10}},
		Most:  500,
	}
}

// steadily returns numbers that look random, but are the same in each run.
func steadily(row uint64) *rand.Rand {
	return rand.New(rand.NewPCG(row, 6))
}

// anyMade returns a piece, often a small one that moves by fractions of a hundredth.
func anyMade(random *rand.Rand) api.Made {
	size := random.IntN(40)
	if random.IntN(3) == 0 {
		size = random.IntN(5000)
	}
	p := api.Made{Size: size, Rate: random.IntN(2001), Moisture: random.IntN(401), Group: random.IntN(3)}
	if random.IntN(2) == 0 {
		p.Minus, p.Plus = random.IntN(min(size, 5)+1), random.IntN(5)
	}
	return p
}

// anyFit returns a fit with some pieces; its limits are near the clearance that it is made with.
func anyFit(random *rand.Rand) api.Fit {
	f := api.Fit{Name: "any"}
	made := 0
	for range random.IntN(5) {
		p := anyMade(random)
		if random.IntN(2) == 0 {
			f.Outer = append(f.Outer, p)
			made += p.Size
		} else {
			f.Inner = append(f.Inner, p)
			made -= p.Size
		}
	}
	f.Least, f.Most = made-random.IntN(20), made+random.IntN(20)
	return f
}

// anySeasons returns some short seasons, a part of them around Saturation.
func anySeasons(random *rand.Rand) []api.Season {
	l := make([]api.Season, random.IntN(4))
	for i := range l {
		low := random.IntN(396)
		if random.IntN(4) == 0 {
			low = 276 + random.IntN(6)
		}
		l[i] = api.Season{Name: string(rune('a' + i)), Low: low, High: low + random.IntN(5)}
	}
	return l
}

// exactly is the definition of the exact size at a moisture of what has a size when a piece is made.
func exactly(size int, p api.Made, moisture int) *big.Rat {
	rise := big.NewRat(int64(p.Rate)*int64(min(moisture, 280)-min(p.Moisture, 280)), 1000000)
	return rise.Mul(rise.Add(rise, big.NewRat(1, 1)), big.NewRat(int64(size), 1))
}

// around is the greatest whole number that is at most low, and the least one that is at least high.
func around(low, high *big.Rat) api.Interval {
	floor := func(r *big.Rat) int {
		return int(new(big.Int).Div(r.Num(), r.Denom()).Int64()) // Div rounds down where the divisor is above 0
	}
	return api.Interval{Lo: floor(low), Hi: -floor(new(big.Rat).Neg(high))}
}

// groupsIn returns the groups of a fit, ascending.
func groupsIn(f api.Fit) []int {
	var groups []int
	for _, p := range slices.Concat(f.Outer, f.Inner) {
		groups = append(groups, p.Group)
	}
	slices.Sort(groups)
	return slices.Compact(groups)
}

// leastAndGreatest is the definition of the least and the greatest clearance at moistures of the groups.
func leastAndGreatest(f api.Fit, at map[int]int) (*big.Rat, *big.Rat) {
	least, greatest := new(big.Rat), new(big.Rat)
	for _, p := range f.Outer {
		least.Add(least, exactly(p.Size-p.Minus, p, at[p.Group]))
		greatest.Add(greatest, exactly(p.Size+p.Plus, p, at[p.Group]))
	}
	for _, p := range f.Inner {
		least.Sub(least, exactly(p.Size+p.Plus, p, at[p.Group]))
		greatest.Sub(greatest, exactly(p.Size-p.Minus, p, at[p.Group]))
	}
	return least, greatest
}

// everyMoisture yields all choices of one of some moistures for each group.
func everyMoisture(groups []int, moistures ...int) iter.Seq[map[int]int] {
	return func(yield func(map[int]int) bool) {
		if len(groups) == 0 {
			yield(map[int]int{})
			return
		}
		for rest := range everyMoisture(groups[1:], moistures...) {
			for _, m := range moistures {
				at := maps.Clone(rest)
				at[groups[0]] = m
				if !yield(at) {
					return
				}
			}
		}
	}
}

// moisturesOf returns all moistures of a season.
func moisturesOf(s api.Season) []int {
	var l []int
	for m := s.Low; m <= s.High; m++ {
		l = append(l, m)
	}
	return l
}

// overSeason is the definition of the least and the greatest clearance in a season: at all of its moistures.
func overSeason(f api.Fit, s api.Season) (*big.Rat, *big.Rat) {
	var least, greatest *big.Rat
	for at := range everyMoisture(groupsIn(f), moisturesOf(s)...) {
		low, high := leastAndGreatest(f, at)
		if least == nil || low.Cmp(least) < 0 {
			least = low
		}
		if greatest == nil || high.Cmp(greatest) > 0 {
			greatest = high
		}
	}
	return least, greatest
}

// whole returns a whole number as a fraction.
func whole(n int) *big.Rat { return big.NewRat(int64(n), 1) }

// names are texts that are names, and texts that are none.
func names() map[string]bool {
	return map[string]bool{
		"a": true, "Z": true, "A-": true, "z9": true, "abcdefghijkl": true, "b-0123456789": true,
		"": false, "abcdefghijklm": false, "9a": false, "-a": false, "a b": false, "a_b": false, "a\n": false, "a/": false, "a:": false,
		"a@": false, "a[": false, "a`": false, "a{": false, "@": false, "[": false, "`": false, "{": false, "\u00e9": false, "a\u00e9": false, "\xff": false, " ": false,
	}
}
