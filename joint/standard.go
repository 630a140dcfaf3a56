package joint

import (
	"slices"

	"spokeshave/api"
)

const maxTails = 8 // of a standard dovetail

// Standard returns a joint of a kind that suits a box.
func Standard(kind int, size [3]int) (api.Joint, api.Errno) {
	if e := checkBox(kind, size); e != api.OK {
		return api.Joint{}, e
	}
	j := api.Joint{Kind: kind, Size: size, Numbers: standard(kind, size)}
	if Check(j) != api.OK {
		return api.Joint{}, api.ErrNone
	}
	return j, api.OK
}

// Loosen returns a joint with another gap.
func Loosen(j api.Joint, gap int) (api.Joint, api.Errno) {
	if e := Check(j); e != api.OK {
		return api.Joint{}, e
	}
	place, has := gapPlace(j.Kind)
	if !has {
		return api.Joint{}, api.ErrKind
	}
	j.Numbers = slices.Clone(j.Numbers)
	j.Numbers[place] = gap
	if e := Check(j); e != api.OK {
		return api.Joint{}, e
	}
	return j, api.OK
}

// standard returns the numbers of the standard joint of a kind; a box that is too small for it gets numbers that are not right.
func standard(kind int, size [3]int) []int {
	l, w, t := size[0], size[1], size[2]
	switch kind {
	case lap:
		return []int{t / 2}
	case bridle:
		return []int{t / 3, t - t/3}
	case tenon:
		return []int{w / 6, w - w/6, t / 3, t - t/3}
	case stopped:
		return []int{2 * l / 3, l / 24, w / 6, w - w/6, t / 3, t - t/3}
	case tongue:
		return []int{l / 2, l / 24, t / 3, t - t/3}
	case dovetail:
		return standardTails(l, w, t)
	case scarf:
		return []int{(l - 6*t) >> 1, 1, 6} // a shift rounds down where a quotient does not
	case fingers:
		return standardFingers(w, t)
	case dowels:
		r := t / 6
		return []int{l / 2, r, 7 * r / 5, l / 3, l / 3, l / 24, w / 4, t / 2, w - w/4, t / 2}
	case spline:
		return []int{l, l / 8, l / 4, t / 4, t - t/4}
	default: // three
		return []int{t / 2, l / 3, l - l/3, w / 3, w - w/3}
	}
}

// standardTails returns the numbers of a dovetail; there are no tails if none has room.
func standardTails(l, w, t int) []int {
	s := maxSlope
	for l%s != 0 {
		s--
	}
	step := t + 2*l/s + t/2
	count := min((w-t/2)/step, maxTails)
	numbers := []int{s, t}
	for i := range count {
		numbers = append(numbers, (w-(count-1)*step-t)/2+i*step)
	}
	return numbers
}

func standardFingers(w, t int) []int {
	var numbers []int
	for y := t; y < w && len(numbers) < api.MaxNumbers; y += t {
		numbers = append(numbers, y)
	}
	return numbers
}
