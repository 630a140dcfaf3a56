package structure

import "spokeshave/api"

// Limits of glued faces and of doors.
const (
	maxArea   = 1000000000000 // square hundredths of a millimetre
	maxBorne  = 100000        // kilopascals
	maxWeight = 200000        // grams of a door
	maxDoor   = 3000          // millimetres
)

// Carries returns how many newtons a joint with some areas carries along an axis.
func Carries(area [3]int, axis, shear, pull int) (int, api.Errno) {
	if e := firstError(checkRange(0, maxArea, area[:]...), checkRange(0, 2, axis), checkRange(0, maxBorne, shear, pull)); e != api.OK {
		return 0, e
	}
	carried := area[axis] * pull
	for i, face := range area {
		if i != axis {
			carried += face * shear
		}
	}
	return carried / 10000000, api.OK
}

// Hinge returns the horizontal force on each of the two hinges of a door.
func Hinge(grams, width, apart int) (api.Frac, api.Errno) {
	if e := firstError(checkRange(1, maxWeight, grams), checkRange(1, maxDoor, width, apart)); e != api.OK {
		return api.Frac{}, e
	}
	return added(200000*apart, grams*981*width), api.OK
}
