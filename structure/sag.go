package structure

import "spokeshave/api"

// Sag returns the sag at a place.
func Sag(b api.Beam, stiffness int, l api.Burden, at int) (api.Frac, api.Errno) {
	if e := firstError(CheckBurden(b, l), checkRange(1, maxStiffness, stiffness), checkPlace(b, at)); e != api.OK {
		return api.Frac{}, e
	}
	return sagAt(b, stiffness, l, at), api.OK
}

// GreatestSag returns the first whole place at which the sag is greatest in size, and this sag.
func GreatestSag(b api.Beam, stiffness int, l api.Burden) (int, api.Frac, api.Errno) {
	if e := firstError(CheckBurden(b, l), checkRange(1, maxStiffness, stiffness)); e != api.OK {
		return 0, api.Frac{}, e
	}
	place, sag := greatestSag(b, l)
	return place, added(sagParts(b, stiffness), sag), api.OK
}

// SagRange returns the least and the greatest sag at a place for all stiffnesses of wood.
func SagRange(b api.Beam, w api.Wood, l api.Burden, at int) (api.Frac, api.Frac, api.Errno) {
	if e := firstError(CheckBurden(b, l), CheckWood(w), checkPlace(b, at)); e != api.OK {
		return api.Frac{}, api.Frac{}, e
	}
	soft, stiff := sagAt(b, w.Low, l, at), sagAt(b, w.High, l, at)
	if soft.Num < 0 { // it bends upward, and the more the softer it is
		return soft, stiff, api.OK
	}
	return stiff, soft, api.OK
}

func sagAt(b api.Beam, stiffness int, l api.Burden, at int) api.Frac {
	return added(sagParts(b, stiffness), sagTerms(b, l, at)...)
}

func greatestSag(b api.Beam, l api.Burden) (int, int) {
	return greatest(b.Span, func(x int) []int { return sagTerms(b, l, x) })
}

// sagParts returns how many of the parts in which sags are told make one millimetre: with them, every sag is a whole number that does not depend on the wood.
func sagParts(b api.Beam, stiffness int) int {
	return 2 * b.Span * stiffness * b.Width * b.Thick * b.Thick * b.Thick
}

// sagTerms returns the terms of the sag at a place.
func sagTerms(b api.Beam, l api.Burden, at int) []int {
	terms := []int{sagOfSpread(b, l.Spread, at)}
	for _, p := range l.Points {
		terms = append(terms, sagOfPoint(b, p[0], p[1], at))
	}
	return terms
}

// sagOfPoint returns the sag at x of a weight at a.
func sagOfPoint(b api.Beam, a, newtons, x int) int {
	if x > a { // by Maxwell: the sag is the same if the two places are exchanged
		a, x = x, a
	}
	if b.Ends == fixed {
		return 4 * b.Span * newtons * x * x * (3*a - x)
	}
	rest := b.Span - a
	return 4 * newtons * rest * x * (b.Span*b.Span - rest*rest - x*x)
}

// sagOfSpread returns the sag at x of a weight that is spread.
func sagOfSpread(b api.Beam, newtons, x int) int {
	span := b.Span
	if b.Ends == fixed {
		return newtons * x * x * (x*x - 4*span*x + 6*span*span)
	}
	return newtons * x * (span*span*span - 2*span*x*x + x*x*x)
}
