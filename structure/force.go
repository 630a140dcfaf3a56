package structure

import "spokeshave/api"

// forces is the reactions at the beginning and at the end of a beam, and the moment at its beginning. All forces and moments of a beam are told in parts of 1 / (2 L), of which they are whole numbers.
type forces [3]int

// parts returns how many parts make one newton, or one newton millimetre.
func parts(b api.Beam) int {
	return 2 * b.Span
}

// Reactions returns the forces at the beginning and at the end of a beam, and the moment at its beginning.
func Reactions(b api.Beam, l api.Burden) (api.Frac, api.Frac, api.Frac, api.Errno) {
	if e := CheckBurden(b, l); e != api.OK {
		return api.Frac{}, api.Frac{}, api.Frac{}, e
	}
	f := reactions(b, l)
	return added(parts(b), f[0]), added(parts(b), f[1]), added(parts(b), f[2]), api.OK
}

// reactions returns the forces of a burden.
func reactions(b api.Beam, l api.Burden) forces {
	all := reactionsToSpread(b, l.Spread)
	for _, p := range l.Points {
		for i, f := range reactionsToPoint(b, p[0], p[1]) {
			all[i] += f
		}
	}
	return all
}

// reactionsToPoint returns the forces of a weight at a place.
func reactionsToPoint(b api.Beam, at, newtons int) forces {
	if b.Ends == fixed {
		return forces{2 * b.Span * newtons, 0, -2 * b.Span * newtons * at}
	}
	return forces{2 * newtons * (b.Span - at), 2 * newtons * at, 0}
}

// reactionsToSpread returns the forces of a weight that is spread.
func reactionsToSpread(b api.Beam, newtons int) forces {
	if b.Ends == fixed {
		return forces{2 * b.Span * newtons, 0, -newtons * b.Span * b.Span}
	}
	return forces{newtons * b.Span, newtons * b.Span, 0}
}

// Shear returns the shear force at a place.
func Shear(b api.Beam, l api.Burden, at int) (api.Frac, api.Errno) {
	if e := firstError(CheckBurden(b, l), checkPlace(b, at)); e != api.OK {
		return api.Frac{}, e
	}
	terms := []int{reactions(b, l)[0], -2 * l.Spread * at}
	for _, p := range l.Points {
		if p[0] <= at {
			terms = append(terms, -2*b.Span*p[1])
		}
	}
	return added(parts(b), terms...), api.OK
}

// Moment returns the moment at a place.
func Moment(b api.Beam, l api.Burden, at int) (api.Frac, api.Errno) {
	if e := firstError(CheckBurden(b, l), checkPlace(b, at)); e != api.OK {
		return api.Frac{}, e
	}
	return momentAt(b, l, at), api.OK
}

func momentAt(b api.Beam, l api.Burden, at int) api.Frac {
	return added(parts(b), momentTerms(b, l, at)...)
}

// momentTerms returns the terms of the moment at a place.
func momentTerms(b api.Beam, l api.Burden, at int) []int {
	f := reactions(b, l)
	terms := []int{f[2], f[0] * at, -l.Spread * at * at}
	for _, p := range l.Points {
		if p[0] <= at {
			terms = append(terms, -2*b.Span*p[1]*(at-p[0]))
		}
	}
	return terms
}

// GreatestMoment returns the first whole place at which the moment is greatest in size, and this moment.
func GreatestMoment(b api.Beam, l api.Burden) (int, api.Frac, api.Errno) {
	if e := CheckBurden(b, l); e != api.OK {
		return 0, api.Frac{}, e
	}
	place, moment := greatestMoment(b, l)
	return place, added(parts(b), moment), api.OK
}

func greatestMoment(b api.Beam, l api.Burden) (int, int) {
	return greatest(b.Span, func(x int) []int { return momentTerms(b, l, x) })
}

// Stress returns the stress of a beam.
func Stress(b api.Beam, l api.Burden) (api.Frac, api.Errno) {
	if e := CheckBurden(b, l); e != api.OK {
		return api.Frac{}, e
	}
	return stress(b, l), api.OK
}

func stress(b api.Beam, l api.Burden) api.Frac {
	_, moment := greatestMoment(b, l)
	return added(parts(b)*b.Width*b.Thick*b.Thick, 6*abs(moment))
}
