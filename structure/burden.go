package structure

import (
	"slices"

	"spokeshave/api"
)

const thousand = 1000

// Heavier returns a burden with all weights multiplied by thousandths.
func Heavier(l api.Burden, permille int) (api.Burden, api.Errno) {
	if e := firstError(checkWeights(l, api.MaxSpan), checkRange(thousand, 5*thousand, permille)); e != api.OK {
		return api.Burden{}, e
	}
	heavier := api.Burden{Points: slices.Clone(l.Points), Spread: multiplied(l.Spread, permille)}
	for i, p := range l.Points {
		heavier.Points[i][1] = multiplied(p[1], permille)
	}
	if checkWeights(heavier, api.MaxSpan) != api.OK {
		return api.Burden{}, api.ErrLarge
	}
	return heavier, api.OK
}

// multiplied returns a weight multiplied by thousandths, rounded away from 0.
func multiplied(newtons, permille int) int {
	size := roundedUp(abs(newtons)*permille, thousand)
	if newtons < 0 {
		return -size
	}
	return size
}

// MomentRange returns the least and the greatest moment at a place for all burdens between two ones.
func MomentRange(b api.Beam, low, high api.Burden, at int) (api.Frac, api.Frac, api.Errno) {
	if e := firstError(CheckBurden(b, low), CheckBurden(b, high), checkBetween(low, high), checkPlace(b, at)); e != api.OK {
		return api.Frac{}, api.Frac{}, e
	}
	if b.Ends == fixed { // then no weight makes a moment greater, otherwise none makes one less
		low, high = high, low
	}
	return momentAt(b, low, at), momentAt(b, high, at), api.OK
}

// checkBetween returns the error of two burdens between which others are.
func checkBetween(low, high api.Burden) api.Errno {
	if !slices.EqualFunc(low.Points, high.Points, func(p, q [2]int) bool { return p[0] == q[0] }) {
		return api.ErrShape
	}
	if low.Spread > high.Spread {
		return api.ErrOrder
	}
	for i, p := range low.Points {
		if p[1] > high.Points[i][1] {
			return api.ErrOrder
		}
	}
	return api.OK
}
