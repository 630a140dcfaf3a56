package solid

import (
	"cmp"
	"slices"

	"spokeshave/api"
)

// maxDenominator bounds the denominators of points that are given.
const maxDenominator = 5000

// point is at, divided by den, which is above 0.
type point struct {
	at  vector
	den int
}

// checkPoint returns the error of a point.
func checkPoint(c api.Corner) api.Errno {
	if c.Den < 1 || c.Den > maxDenominator || !pointOf(c).inRoom() {
		return api.ErrRange
	}
	return api.OK
}

func pointOf(c api.Corner) point {
	return point{vector{c.X, c.Y, c.Z}, c.Den}
}

func (p point) corner() api.Corner {
	return api.Corner{X: p.at[0], Y: p.at[1], Z: p.at[2], Den: p.den}
}

func (p point) inRoom() bool {
	return p.at.within(api.MaxPlace * p.den)
}

// lowest returns the same point without a common divisor.
func (p point) lowest() point {
	d := gcd(p.at[0], p.at[1], p.at[2], p.den)
	return point{vector{p.at[0] / d, p.at[1] / d, p.at[2] / d}, p.den / d}
}

// comparePoints orders points by their first coordinates, then the second ones, then the third ones.
func comparePoints(p, q point) int {
	for axis := range p.at {
		if order := cmp.Compare(p.at[axis]*q.den, q.at[axis]*p.den); order != 0 {
			return order
		}
	}
	return 0
}

// addPoint appends a point, in lowest form, to a list that does not contain it yet.
func addPoint(list []point, p point) []point {
	p = p.lowest()
	if slices.Contains(list, p) {
		return list
	}
	return append(list, p)
}

// cornersOf returns points as a new ascending list.
func cornersOf(list []point) []api.Corner {
	sorted := slices.SortedFunc(slices.Values(list), comparePoints)
	corners := make([]api.Corner, 0, len(sorted))
	for _, p := range sorted {
		corners = append(corners, p.corner())
	}
	return corners
}
