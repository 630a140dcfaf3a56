package joint

import (
	"slices"

	"spokeshave/api"
)

// The rules of good proportions.
const (
	thinLayer  = iota // less than T/4
	badTenon          // less than T/4 or more than T/2
	shortDepth        // less than L/2, or 3 r
	thinWall          // less than W/8, or T/4
	steepTail         // s is less than 6
	thinPin           // less than T/8
	shortScarf        // less than 6 T
	badDowels         // 4 r more than T, or less than 6 r from one to the next
	countRules
)

// Proportions returns the numbers of the rules that a joint breaks.
func Proportions(j api.Joint) ([]int, api.Errno) {
	if e := Check(j); e != api.OK {
		return nil, e
	}
	var broken []int
	for rule := range countRules {
		if breaks(j, rule) {
			broken = append(broken, rule)
		}
	}
	return broken, api.OK
}

// breaks reports whether a right joint breaks a rule. No division is made, so that all comparisons are exact.
func breaks(j api.Joint, rule int) bool {
	w, t := j.Size[1], j.Size[2]
	n := j.Numbers
	switch j.Kind {
	case lap, three:
		return rule == thinLayer && less(t, 4, n[0], t-n[0])
	case bridle:
		return rule == thinLayer && less(t, 4, n[0], n[1]-n[0], t-n[1])
	case tenon, stopped, tongue:
		return holeOf(j).breaks(rule, w, t)
	case dovetail:
		return rule == steepTail && n[0] < 6 || rule == thinPin && less(t, 8, tailsOf(j).pins(w)...)
	case scarf:
		return rule == shortScarf && scarfLength(j) < 6*t
	case dowels:
		return rodsOf(j).breaks(rule, t)
	case spline:
		return rule == thinWall && less(t, 4, n[3], t-n[4])
	}
	return false // fingers
}

// less reports whether one of some lengths is less than a part of a whole.
func less(whole, parts int, lengths ...int) bool {
	return slices.Min(lengths)*parts < whole
}

func (h hole) breaks(rule, width, height int) bool {
	z := h.across[len(h.across)-1].length()
	switch rule {
	case badTenon:
		return less(height, 4, z) || 2*z > height
	case shortDepth:
		return less(h.length, 2, h.depth)
	case thinWall:
		return len(h.across) > 1 && less(width, 8, h.across[0].low, width-h.across[0].high)
	}
	return false
}

func (d rods) breaks(rule, height int) bool {
	switch rule {
	case shortDepth:
		return min(d.a, d.b) < 3*d.r
	case badDowels:
		for i := range len(d.at) - 1 {
			if d.at[i+1].y-d.at[i].y < 6*d.r {
				return true
			}
		}
		return 4*d.r > height
	}
	return false
}
