package fit

import (
	"iter"
	"slices"

	"spokeshave/api"
)

// The sides of a break.
const (
	tooLittle = -1
	tooMuch   = 1
)

// Holds reports whether a fit holds in all seasons; if not, it returns the first standard break.
func Holds(f api.Fit, l []api.Season) (bool, api.Break, api.Errno) {
	if e := checkFitOver(f, l); e != api.OK {
		return false, api.Break{}, e
	}
	for b := range breaks([]api.Fit{f}, l) {
		return false, b, api.OK
	}
	return true, api.Break{}, api.OK
}

// All returns the standard breaks of fits in seasons.
func All(f []api.Fit, l []api.Season) ([]api.Break, api.Errno) {
	if e := checkFitsOver(f, l); e != api.OK {
		return nil, e
	}
	return slices.Collect(breaks(f, l)), api.OK
}

// CheckBreak tells why a break is none; it need not be a standard one.
func CheckBreak(f []api.Fit, l []api.Season, b api.Break) api.Errno {
	if e := checkFitsOver(f, l); e != api.OK {
		return e
	}
	if !within(0, len(f)-1, b.Fit) || !within(0, len(l)-1, b.Season) {
		return api.ErrMissing
	}
	fit, season := f[b.Fit], l[b.Season]
	groups := groupsOf(fit)
	switch {
	case len(b.Moistures) != len(groups):
		return api.ErrShape
	case !within(season.Low, season.High, b.Moistures...), b.Side != tooLittle && b.Side != tooMuch:
		return api.ErrRange
	}
	seen := seenFrom(fit, b.Side)
	if leastAt(seen, byGroup(groups, b.Moistures)) >= seen.Least*million {
		return api.ErrProof
	}
	return api.OK
}

// Worst returns the numbers of the seasons with the least and with the greatest clearance, and the interval between these.
func Worst(f api.Fit, l []api.Season) ([2]int, api.Interval, api.Errno) {
	if e := checkFitOver(f, l); e != api.OK {
		return [2]int{}, api.Interval{}, e
	}
	if len(l) == 0 {
		return [2]int{}, api.Interval{}, api.ErrNone
	}
	first, least := leastOfAll(f, l)
	last, negated := leastOfAll(exchanged(f), l)
	return [2]int{first, last}, outward(least, -negated), api.OK
}

// leastOfAll returns the number of the first season with the least clearance, and this clearance in millionths.
func leastOfAll(f api.Fit, l []api.Season) (int, int) {
	number, least := 0, 0
	for i, s := range l {
		if now, _ := leastOver(f, s); i == 0 || now < least {
			number, least = i, now
		}
	}
	return number, least
}

// breaks yields the standard breaks by fits, then seasons, then sides.
func breaks(f []api.Fit, l []api.Season) iter.Seq[api.Break] {
	return func(yield func(api.Break) bool) {
		for i, fit := range f {
			for j, season := range l {
				for _, side := range sides() {
					moistures, broken := brokenIn(fit, season, side)
					if broken && !yield(api.Break{Fit: i, Season: j, Side: side, Moistures: moistures}) {
						return
					}
				}
			}
		}
	}
}

// brokenIn returns the moistures of the standard break of a fit in a season with a side; or false if there is none.
func brokenIn(f api.Fit, s api.Season, side int) ([]int, bool) {
	seen := seenFrom(f, side)
	least, moistures := leastOver(seen, s)
	return moistures, least < seen.Least*million
}

// seenFrom returns a fit that has too little clearance where a fit is broken with a side.
func seenFrom(f api.Fit, side int) api.Fit {
	if side == tooMuch {
		return exchanged(f)
	}
	return f
}

func sides() [2]int {
	return [2]int{tooLittle, tooMuch}
}
