package fit

import (
	"slices"
	"sort"

	"spokeshave/api"
)

// Adjust returns the interval of the sizes of an inner piece with which a fit holds in all seasons.
func Adjust(f api.Fit, l []api.Season, inner int) (api.Interval, api.Errno) {
	if e := checkFitOver(f, l); e != api.OK {
		return api.Interval{}, e
	}
	if !within(0, len(f.Inner)-1, inner) {
		return api.Interval{}, api.ErrMissing
	}
	return holding(sizesOf(f.Inner[inner]), l, func(size int) []api.Fit {
		changed := f
		changed.Inner = slices.Clone(f.Inner)
		changed.Inner[inner].Size = size
		return []api.Fit{changed}
	})
}

// sizesOf returns the sizes that a piece may have with its tolerances.
func sizesOf(p api.Made) api.Interval {
	return api.Interval{Lo: p.Minus, Hi: api.MaxSize - p.Plus}
}

// holding returns the interval of the numbers in a range with which all fits hold in all seasons. The clearance of each fit has to rise or to fall with the number all the way: then each of its sides is broken below some number alone, or above one alone.
func holding(all api.Interval, l []api.Season, fitsWith func(n int) []api.Fit) (api.Interval, api.Errno) {
	for i := range fitsWith(all.Lo) {
		for _, side := range sides() {
			all = narrowed(all, func(n int) bool { return keeps(fitsWith(n)[i], l, side) })
			if all.Lo > all.Hi {
				return api.Interval{}, api.ErrNone
			}
		}
	}
	return all, api.OK
}

// keeps reports whether a fit is broken with a side in no season.
func keeps(f api.Fit, l []api.Season, side int) bool {
	return !slices.ContainsFunc(l, func(s api.Season) bool {
		_, broken := brokenIn(f, s, side)
		return broken
	})
}

// narrowed returns the interval of the numbers in a range that are right, if all right ones are at one end of it; Lo is above Hi if none is.
func narrowed(all api.Interval, right func(n int) bool) api.Interval {
	first := right(all.Lo)
	changes := all.Lo + sort.Search(all.Hi-all.Lo+1, func(i int) bool { return right(all.Lo+i) != first })
	if first {
		all.Hi = changes - 1
	} else {
		all.Lo = changes
	}
	return all
}
