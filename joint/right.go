package joint

import (
	"slices"

	"spokeshave/api"
)

// maxSlope bounds the numbers that say how steep dovetails and scarfs are, which become numbers of normals.
const maxSlope = api.MaxNormal

// isRight reports whether the conditions of its kind hold for a joint with the right count of numbers.
func isRight(j api.Joint) bool {
	l, w, t := j.Size[0], j.Size[1], j.Size[2]
	n := j.Numbers
	switch j.Kind {
	case lap, bridle:
		return ascend(t, n...)
	case tenon:
		return ascend(w, n[:2]...) && ascend(t, n[2:]...)
	case stopped:
		return isStopped(l, n[0], n[1]) && ascend(w, n[2:4]...) && ascend(t, n[4:]...)
	case tongue:
		return isStopped(l, n[0], n[1]) && ascend(t, n[2:]...)
	case dovetail:
		return isDovetail(j)
	case scarf:
		return isScarf(j)
	case fingers:
		return ascend(w, n...)
	case dowels:
		return rodsOf(j).fit(j.Size)
	case spline:
		return l == w && isSlot(l, n[0], n[1], n[2]) && ascend(t, n[3:]...)
	default: // three
		return ascend(t, n[0]) && ascend(l, n[1:3]...) && ascend(w, n[3:]...)
	}
}

// ascend reports whether numbers lie between 0 and an end, each one above the one before.
func ascend(end int, numbers ...int) bool {
	last := 0
	for _, n := range numbers {
		if n <= last {
			return false
		}
		last = n
	}
	return last < end
}

// isStopped reports whether a hole of a depth, with a gap behind it, ends inside of a length.
func isStopped(length, depth, gap int) bool {
	return depth > 0 && gap >= 0 && depth+gap < length
}

func isDovetail(j api.Joint) bool {
	s, w := j.Numbers[0], j.Numbers[1]
	if !within(1, maxSlope, s) || j.Size[0]%s != 0 || w <= 0 {
		return false
	}
	return slices.Min(tailsOf(j).pins(j.Size[1])) >= 0
}

func isScarf(j api.Joint) bool {
	p, q := j.Numbers[1], j.Numbers[2]
	if !within(1, maxSlope, p) || !within(-maxSlope, maxSlope, q) || q == 0 || q*j.Size[2]%p != 0 {
		return false
	}
	x1, x2 := scarfEnds(j)
	return within(0, j.Size[0], x1, x2)
}

// scarfEnds returns where the slanted face of a scarf is at z = 0 and at z = T.
func scarfEnds(j api.Joint) (x1, x2 int) {
	x1, p, q := j.Numbers[0], j.Numbers[1], j.Numbers[2]
	return x1, x1 + q*j.Size[2]/p
}

// isSlot reports whether a spline lies in the square of a side: what is at most h from x + y = c and at most d from x - y = 0.
func isSlot(side, c, h, d int) bool {
	return h > 0 && d > 0 && h+d <= c && c+h+d <= 2*side
}
