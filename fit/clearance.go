package fit

import (
	"maps"
	"slices"

	"spokeshave/api"
	"spokeshave/timber"
)

const million = 1000000 // exact sizes are whole numbers of millionths

// Groups returns the groups of a fit.
func Groups(f api.Fit) ([]int, api.Errno) {
	if e := CheckFit(f); e != api.OK {
		return nil, e
	}
	return groupsOf(f), api.OK
}

// SizeAt returns the interval of a piece at a moisture.
func SizeAt(p api.Made, moisture int) (api.Interval, api.Errno) {
	if e := CheckMade(p); e != api.OK {
		return api.Interval{}, e
	}
	if !within(0, api.MaxMoisture, moisture) {
		return api.Interval{}, api.ErrRange
	}
	return clearanceAt(alone(p), map[int]int{p.Group: moisture}), api.OK
}

// SizeOver returns the interval of all sizes of a piece in a season.
func SizeOver(p api.Made, s api.Season) (api.Interval, api.Errno) {
	if e := CheckMade(p); e != api.OK {
		return api.Interval{}, e
	}
	if e := checkSeason(s); e != api.OK {
		return api.Interval{}, e
	}
	return clearanceOver(alone(p), s), api.OK
}

// Clearance returns the interval of the clearance of a fit at moistures of its groups.
func Clearance(f api.Fit, moistures []int) (api.Interval, api.Errno) {
	if e := CheckFit(f); e != api.OK {
		return api.Interval{}, e
	}
	groups := groupsOf(f)
	switch {
	case len(moistures) != len(groups):
		return api.Interval{}, api.ErrShape
	case !within(0, api.MaxMoisture, moistures...):
		return api.Interval{}, api.ErrRange
	}
	return clearanceAt(f, byGroup(groups, moistures)), api.OK
}

// ClearanceOver returns the interval of all clearances of a fit in a season.
func ClearanceOver(f api.Fit, s api.Season) (api.Interval, api.Errno) {
	if e := CheckFit(f); e != api.OK {
		return api.Interval{}, e
	}
	if e := checkSeason(s); e != api.OK {
		return api.Interval{}, e
	}
	return clearanceOver(f, s), api.OK
}

// alone returns a fit whose clearance is the size of a piece.
func alone(p api.Made) api.Fit {
	return api.Fit{Outer: []api.Made{p}}
}

// exchanged returns a fit whose least clearance is the greatest one of a fit with its sign changed. So only least clearances have to be looked for.
func exchanged(f api.Fit) api.Fit {
	f.Outer, f.Inner = f.Inner, f.Outer
	f.Least, f.Most = -f.Most, -f.Least
	return f
}

func clearanceAt(f api.Fit, moistures map[int]int) api.Interval {
	return outward(leastAt(f, moistures), -leastAt(exchanged(f), moistures))
}

func clearanceOver(f api.Fit, s api.Season) api.Interval {
	least, _ := leastOver(f, s)
	negated, _ := leastOver(exchanged(f), s)
	return outward(least, -negated)
}

// leastAt returns the least clearance of a fit, in millionths, at the moistures of the groups.
func leastAt(f api.Fit, moistures map[int]int) int {
	least := 0
	for _, share := range shares(f, func(group int) int { return moistures[group] }) {
		least += share
	}
	return least
}

// leastOver returns the least clearance of a fit in a season, in millionths, and the moistures that make it. Sizes rise or fall with the moisture all the way, so that it is made at the ends of the season.
func leastOver(f api.Fit, s api.Season) (int, []int) {
	low := shares(f, func(int) int { return s.Low })
	high := shares(f, func(int) int { return s.High })
	least := 0
	var moistures []int
	for _, group := range groupsOf(f) {
		if high[group] < low[group] {
			least += high[group]
			moistures = append(moistures, s.High)
		} else {
			least += low[group]
			moistures = append(moistures, s.Low)
		}
	}
	return least, moistures
}

// shares returns what the pieces of each group add to the least clearance of a fit, in millionths, at the moistures of the groups.
func shares(f api.Fit, moistureOf func(group int) int) map[int]int {
	added := map[int]int{}
	for _, p := range f.Outer {
		added[p.Group] += millionths(p.Size-p.Minus, p, moistureOf(p.Group))
	}
	for _, p := range f.Inner {
		added[p.Group] -= millionths(p.Size+p.Plus, p, moistureOf(p.Group))
	}
	return added
}

// millionths returns the exact size at a moisture of what has a size when the piece is made. The piece and the moisture have to be checked, so that timber has no error.
func millionths(size int, p api.Made, moisture int) int {
	exact, _ := timber.Exact(size, p.Rate, api.Interval{Lo: p.Moisture, Hi: moisture})
	return exact.Num * (million / exact.Den)
}

// groupsOf returns the groups of a fit, ascending.
func groupsOf(f api.Fit) []int {
	groups := map[int]bool{}
	for _, l := range [2][]api.Made{f.Outer, f.Inner} {
		for _, p := range l {
			groups[p.Group] = true
		}
	}
	return slices.Sorted(maps.Keys(groups))
}

// byGroup returns the moistures by the groups that have them.
func byGroup(groups, moistures []int) map[int]int {
	all := map[int]int{}
	for i, group := range groups {
		all[group] = moistures[i]
	}
	return all
}

// outward returns the interval from a number of millionths, rounded down, to another one, rounded up.
func outward(least, most int) api.Interval {
	return api.Interval{Lo: roundedDown(least), Hi: roundedUp(most)}
}

func roundedDown(millionths int) int {
	whole := millionths / million
	if millionths%million < 0 {
		whole--
	}
	return whole
}

func roundedUp(millionths int) int {
	return -roundedDown(-millionths)
}
