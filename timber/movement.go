package timber

import "spokeshave/api"

const (
	maxAxis = 2
	million = 1000000 // rates are in parts of it
)

// Rate returns the rate at which a board moves along an axis.
func Rate(s api.Species, cut, axis int) (int, api.Errno) {
	if e := checkOneSpecies(s); e != api.OK {
		return 0, e
	}
	if !within(0, 1, cut) || !within(0, maxAxis, axis) {
		return 0, api.ErrRange
	}
	return rateOf(s, cut)[axis], api.OK
}

// Exact returns the size at the moisture m.Hi of what has a size at the moisture m.Lo.
func Exact(size, rate int, m api.Interval) (api.Frac, api.Errno) {
	if e := checkMovement(size, rate, m.Lo, m.Hi); e != api.OK {
		return api.Frac{}, e
	}
	parts := millionths(size, rate, m.Lo, m.Hi)
	divisor := gcd(parts, million)
	return api.Frac{Num: parts / divisor, Den: million / divisor}, api.OK
}

// At returns the interval of the exact size.
func At(size, rate int, m api.Interval) (api.Interval, api.Errno) {
	if e := checkMovement(size, rate, m.Lo, m.Hi); e != api.OK {
		return api.Interval{}, e
	}
	return moved(size, rate, m.Lo, m.Hi, m.Hi), api.OK
}

// Over returns the interval of all exact sizes for a range of moisture.
func Over(size, rate int, from int, m api.Interval) (api.Interval, api.Errno) {
	if e := checkMovement(size, rate, from, m.Lo, m.Hi); e != api.OK {
		return api.Interval{}, e
	}
	if m.Lo > m.Hi {
		return api.Interval{}, api.ErrOrder
	}
	return moved(size, rate, from, m.Lo, m.Hi), api.OK
}

// Sizes returns the intervals of the length, the width and the thickness of a board at a moisture.
func Sizes(l []api.Species, b api.Board, moisture int) ([3]api.Interval, api.Errno) {
	s, e := speciesOf(l, b)
	if e != api.OK {
		return [3]api.Interval{}, e
	}
	if !within(0, api.MaxMoisture, moisture) {
		return [3]api.Interval{}, api.ErrRange
	}
	rates := rateOf(s, b.Cut)
	var sizes [3]api.Interval
	for axis, size := range [3]int{b.Length, b.Width, b.Thick} {
		sizes[axis] = moved(size, rates[axis], b.Moisture, moisture, moisture)
	}
	return sizes, api.OK
}

// rateOf returns the rates of a board's length, width and thickness.
func rateOf(s api.Species, cut int) [3]int {
	if cut == 0 {
		return [3]int{s.Along, s.Across, s.Radial}
	}
	return [3]int{s.Along, s.Radial, s.Across}
}

// checkMovement returns the error of a size, a rate and some moistures.
func checkMovement(size, rate int, moistures ...int) api.Errno {
	if !within(0, api.MaxSize, size) || !within(0, api.MaxRate, rate) || !within(0, api.MaxMoisture, moistures...) {
		return api.ErrRange
	}
	return api.OK
}

// moved returns the interval from the size at a low moisture to that at a high one. No rate is below 0, so that the sizes between are in it.
func moved(size, rate, from, low, high int) api.Interval {
	return api.Interval{
		Lo: millionths(size, rate, from, low) / million,
		Hi: (millionths(size, rate, from, high) + million - 1) / million,
	}
}

// millionths returns how many millionths the size has at a moisture, if it has a size at the moisture from.
func millionths(size, rate, from, to int) int {
	return size * (million + rate*(min(to, api.Saturation)-min(from, api.Saturation)))
}

// gcd returns the greatest common divisor of two numbers that are not both 0.
func gcd(a, b int) int {
	for b != 0 {
		a, b = b, a%b
	}
	return a
}
