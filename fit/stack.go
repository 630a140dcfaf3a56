package fit

import "spokeshave/api"

const maxScrew = 10000 // the greatest diameter

// Slot returns the length of a slot in which a screw of a diameter keeps its place in all seasons.
func Slot(p api.Made, screw int, l []api.Season) (int, api.Errno) {
	if e := CheckMade(p); e != api.OK {
		return 0, e
	}
	if !within(1, maxScrew, screw) {
		return 0, api.ErrRange
	}
	if e := CheckSeasons(l); e != api.OK {
		return 0, e
	}
	if len(l) == 0 {
		return screw, api.OK
	}
	low, high := l[0].Low, l[0].High
	for _, s := range l {
		low, high = min(low, s.Low), max(high, s.High)
	}
	size := p.Size + p.Plus
	return screw + roundedUp(millionths(size, p, high)-millionths(size, p, low)), api.OK
}

// Stack returns the interval of the sizes that pieces have together when they are made.
func Stack(l []api.Made) (api.Interval, api.Errno) {
	if e := checkLists(api.MaxMade, CheckMade, l); e != api.OK {
		return api.Interval{}, e
	}
	var sum api.Interval
	for _, p := range l {
		sum.Lo += p.Size - p.Minus
		sum.Hi += p.Size + p.Plus
	}
	return sum, api.OK
}

// Likely reports whether the tolerances of pieces stay within a limit if their squares are added.
func Likely(l []api.Made, limit int) (bool, api.Errno) {
	if e := checkLists(api.MaxMade, CheckMade, l); e != api.OK {
		return false, e
	}
	if !within(0, api.MaxSize, limit) {
		return false, api.ErrRange
	}
	squares := 0
	for _, p := range l {
		squares += (p.Minus + p.Plus) * (p.Minus + p.Plus)
	}
	return squares <= limit*limit, api.OK
}
