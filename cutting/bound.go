package cutting

import (
	"cmp"
	"slices"

	"spokeshave/api"
	"spokeshave/timber"
)

const bestK = 5 // the greatest k that BestBound tries

// AreaBound returns the sum of the area bounds of all species of blanks.
func AreaBound(j api.Job) (int, api.Errno) {
	if e := CheckJob(j); e != api.OK {
		return 0, e
	}
	return areaBound(j)
}

// Bound returns the bound of a job for two numbers k.
func Bound(j api.Job, k [2]int) (int, api.Errno) {
	weights, e := Weights(j, k)
	if e != api.OK {
		return 0, e
	}
	return boundBy(j.Blanks, weights), api.OK
}

// BestBound returns the greatest bound of a job, and the first numbers k of the greatest one by weights.
func BestBound(j api.Job) (int, [2]int, api.Errno) {
	if e := CheckJob(j); e != api.OK {
		return 0, [2]int{}, e
	}
	best, bestAt := -1, [2]int{}
	for a := range bestK + 1 {
		for b := range bestK + 1 {
			k := [2]int{a, b}
			weights, e := weightsOf(j, k)
			if e != api.OK {
				return 0, [2]int{}, e
			}
			if n := boundBy(j.Blanks, weights); n > best {
				best, bestAt = n, k
			}
		}
	}
	byArea, e := areaBound(j)
	if e != api.OK {
		return 0, [2]int{}, e
	}
	return max(best, byArea), bestAt, api.OK
}

// areaBound returns AreaBound of a job without errors.
func areaBound(j api.Job) (int, api.Errno) {
	sum := 0
	for _, species := range speciesOf(j.Blanks) {
		asked := 0
		for _, blank := range j.Blanks {
			if blank.Species == species {
				asked += blank.Length * blank.Width * blank.Count
			}
		}
		n, found := fewest(soundAreas(j, species), asked)
		if !found {
			return 0, api.ErrNone
		}
		sum += n
	}
	return sum, api.OK
}

// soundAreas returns the sound areas of the boards of a species.
func soundAreas(j api.Job, species string) []int {
	var areas []int
	for _, b := range j.Stock {
		r := usable(b, j.Trim)
		if b.Species != species || r == (api.Rect{}) {
			continue
		}
		if defective, e := timber.Defective(cutOff(b, r)); e == api.OK {
			areas = append(areas, areaOf(r)-defective)
		}
	}
	return areas
}

// fewest returns how many of the greatest amounts add up to at least what is asked, or false if all of them do not. It sorts the amounts.
func fewest(amounts []int, asked int) (int, bool) {
	slices.SortFunc(amounts, func(a, b int) int { return cmp.Compare(b, a) })
	for n, amount := range amounts {
		if asked <= 0 {
			return n, true
		}
		asked -= amount
	}
	return len(amounts), asked <= 0
}

// boundBy returns the bound of blanks by the weights of their pieces.
func boundBy(blanks []api.Blank, weights []api.Frac) int {
	bound := 0
	for _, species := range speciesOf(blanks) {
		sum := api.Frac{Den: 1}
		for n, blank := range blanks {
			if blank.Species == species {
				sum = plus(sum, lowest(weights[n].Num*blank.Count, weights[n].Den))
			}
		}
		bound += (sum.Num + sum.Den - 1) / sum.Den
	}
	return bound
}

// speciesOf returns the species of blanks, each one once.
func speciesOf(blanks []api.Blank) []string {
	var species []string
	seen := map[string]bool{}
	for _, blank := range blanks {
		if !seen[blank.Species] {
			seen[blank.Species] = true
			species = append(species, blank.Species)
		}
	}
	return species
}
