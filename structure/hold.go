package structure

import "spokeshave/api"

const maxPerMetre = 10000 // newtons

// Holds returns ErrWeak if a beam is too weak, or bends by more than one part in ratio of its span.
func Holds(b api.Beam, w api.Wood, l api.Burden, ratio int) api.Errno {
	if e := checkHold(b, w, l, ratio); e != api.OK {
		return e
	}
	if !isStrong(b, w, l) || !isStiff(b, w, l, ratio) {
		return api.ErrWeak
	}
	return api.OK
}

// LeastThick returns the least thickness with which a beam holds.
func LeastThick(b api.Beam, w api.Wood, l api.Burden, ratio int) (int, api.Errno) {
	if e := checkHold(b, w, l, ratio); e != api.OK {
		return 0, e
	}
	thick := least(1, api.MaxThick, func(thick int) bool {
		b.Thick = thick
		return isStrong(b, w, l) && isStiff(b, w, l, ratio)
	})
	if thick > api.MaxThick {
		return 0, api.ErrNone
	}
	return thick, api.OK
}

func checkHold(b api.Beam, w api.Wood, l api.Burden, ratio int) api.Errno {
	return firstError(CheckBurden(b, l), CheckWood(w), checkRange(1, maxRatio, ratio))
}

// isStrong reports whether wood bears the stress of a beam.
func isStrong(b api.Beam, w api.Wood, l api.Burden) bool {
	s := stress(b, l)
	return s.Num <= w.Strength*s.Den
}

// isStiff reports whether a beam of the softest wood sags by at most one part in ratio of its span.
func isStiff(b api.Beam, w api.Wood, l api.Burden, ratio int) bool {
	_, sag := greatestSag(b, l)
	return productAtMost(abs(sag), ratio, b.Span, sagParts(b, w.Low))
}

// LongestSpan returns the greatest span with which a beam holds an even weight of some newtons for each metre.
func LongestSpan(b api.Beam, w api.Wood, perMetre, ratio int) (int, api.Errno) {
	if e := firstError(CheckBeam(b), CheckWood(w), checkRange(1, maxPerMetre, perMetre), checkRange(1, maxRatio, ratio)); e != api.OK {
		return 0, e
	}
	tooLong := least(1, api.MaxSpan, func(span int) bool { return !bears(b, w, span, perMetre, ratio) })
	if tooLong == 1 {
		return 0, api.ErrNone
	}
	return tooLong - 1, api.OK
}

// bears reports whether a beam with another span holds an even weight. Both conditions of the chapter are multiplied by their denominators, so that all numbers are whole.
func bears(b api.Beam, w api.Wood, span, perMetre, ratio int) bool {
	square := b.Width * b.Thick * b.Thick
	bending, bearing := 6*perMetre*span*span, w.Strength*square
	sagging, holding := perMetre*span*span*span*ratio, w.Low*square*b.Thick
	if b.Ends == fixed {
		return bending <= 2000*bearing && 3*sagging <= 2000*holding
	}
	return bending <= 8000*bearing && sagging <= 6400*holding
}
