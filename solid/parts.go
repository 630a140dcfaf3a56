package solid

import (
	"slices"

	"spokeshave/api"
)

// Meet returns the common cells of two solids.
func Meet(a, b api.Solid) (api.Solid, api.Errno) {
	as, bs, e := bodiesOfBoth(a, b)
	if e != api.OK {
		return api.Solid{}, e
	}
	var all []body
	for _, c := range as {
		for _, d := range bs {
			if both, ok := common(c, d); ok {
				all = append(all, both)
			}
			if tooLarge(all) {
				return api.Solid{}, api.ErrLarge
			}
		}
	}
	return solidOf(all), api.OK
}

// Join returns the cells of two solids.
func Join(a, b api.Solid) (api.Solid, api.Errno) {
	if e := Check(a); e != api.OK {
		return api.Solid{}, e
	}
	if e := Check(b); e != api.OK {
		return api.Solid{}, e
	}
	if len(a.Cells)+len(b.Cells) > api.MaxCells {
		return api.Solid{}, api.ErrLarge
	}
	var s api.Solid
	for _, c := range slices.Concat(a.Cells, b.Cells) {
		s.Cells = append(s.Cells, api.Cell{Planes: slices.Clone(c.Planes)})
	}
	return s, api.OK
}

// Minus returns what is left of a without b.
func Minus(a, b api.Solid) (api.Solid, api.Errno) {
	as, bs, e := bodiesOfBoth(a, b)
	if e != api.OK {
		return api.Solid{}, e
	}
	left, e := without(as, bs)
	if e != api.OK {
		return api.Solid{}, e
	}
	return solidOf(left), api.OK
}

// Covers reports whether nothing is left of b without a.
func Covers(a, b api.Solid) (bool, api.Errno) {
	as, bs, e := bodiesOfBoth(a, b)
	if e != api.OK {
		return false, e
	}
	left, e := without(bs, as)
	return e == api.OK && len(left) == 0, e
}

// Same reports whether each of two solids covers the other one.
func Same(a, b api.Solid) (bool, api.Errno) {
	// The error of the second question counts also where the first one is answered with no.
	over, e := Covers(a, b)
	if e != api.OK {
		return false, e
	}
	under, e := Covers(b, a)
	return over && under, e
}

// without returns what is left of some bodies without others.
func without(as, bs []body) ([]body, api.Errno) {
	var all []body
	for _, c := range as {
		done := len(all)
		all = append(all, c)
		for _, d := range bs {
			all = append(all[:done:done], takeAway(all[done:], d)...)
			if tooLarge(all) {
				return nil, api.ErrLarge
			}
		}
	}
	return all, api.OK
}

// takeAway returns what is left of pieces without a body.
func takeAway(pieces []body, d body) []body {
	var left []body
	for _, piece := range pieces {
		if parts, ok := split(piece, d); ok {
			left = append(left, parts...)
		} else {
			left = append(left, piece)
		}
	}
	return left
}

// split returns what is left of a piece without a body, or false if they have no inside in common.
func split(piece, d body) ([]body, bool) {
	if apart(piece, d) {
		return nil, false
	}
	var parts []body
	for _, p := range d.planes {
		if part, ok := piece.cut(opposite(p)); ok {
			parts = append(parts, part)
		}
		rest, ok := piece.cut(p)
		if !ok {
			return nil, false
		}
		piece = rest
	}
	return parts, true
}

// tooLarge reports whether bodies are more than a solid may have, or one of them has more planes than a cell may have.
func tooLarge(bodies []body) bool {
	return len(bodies) > api.MaxCells || slices.ContainsFunc(bodies, func(b body) bool {
		return len(b.planes) > api.MaxPlanes
	})
}
