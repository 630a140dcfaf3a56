package structure

import (
	"slices"

	"spokeshave/api"
)

// Limits of frames.
const (
	maxSide    = 3000    // of a bay
	maxPanel   = 100     // its thickness
	maxShear   = 2000    // stiffness, in megapascals
	maxJoints  = 8       // of a bay
	maxTurning = 1000000 // stiffness of a joint
	maxPush    = 100000  // newtons
	maxDrift   = 100000  // hundredths of a millimetre
)

// CheckBays returns the error of the bays of a frame.
func CheckBays(l []api.Bay) api.Errno {
	if len(l) < 1 || len(l) > api.MaxBays {
		return api.ErrShape
	}
	for _, bay := range l {
		if e := checkBay(bay); e != api.OK {
			return e
		}
		if bay.Height != l[0].Height {
			return api.ErrShape
		}
	}
	return api.OK
}

// checkBay returns the error of a bay without regard to others.
func checkBay(b api.Bay) api.Errno {
	if e := firstError(checkRange(1, maxSide, b.Height, b.Width), checkRange(0, maxPanel, b.Thick), checkRange(0, maxShear, b.Shear)); e != api.OK {
		return e
	}
	switch {
	case (b.Thick == 0) != (b.Shear == 0):
		return api.ErrForm
	case len(b.Joints) > maxJoints:
		return api.ErrLarge
	}
	return checkRange(0, maxTurning, b.Joints...)
}

// Drift returns how far a frame drifts under a horizontal force.
func Drift(l []api.Bay, newtons int) (api.Frac, api.Errno) {
	if e := firstError(CheckBays(l), checkRange(0, maxPush, newtons)); e != api.OK {
		return api.Frac{}, e
	}
	stiffness := stiffnessOf(l)
	if stiffness == 0 {
		return api.Frac{}, api.ErrNone
	}
	return added(stiffness, push(l, newtons)), api.OK
}

// LeastPanel returns the least thickness of the panel of a bay with which a frame drifts by at most some hundredths of a millimetre.
func LeastPanel(l []api.Bay, bay, newtons, limit int) (int, api.Errno) {
	if e := CheckBays(l); e != api.OK {
		return 0, e
	}
	switch {
	case bay < 0 || bay >= len(l):
		return 0, api.ErrMissing
	case l[bay].Thick == 0:
		return 0, api.ErrForm
	}
	if e := firstError(checkRange(0, maxPush, newtons), checkRange(0, maxDrift, limit)); e != api.OK {
		return 0, e
	}
	changed := slices.Clone(l)
	thick := least(0, maxPanel, func(thick int) bool {
		changed[bay].Thick = thick
		stiffness := stiffnessOf(changed)
		return stiffness > 0 && 100*push(l, newtons) <= limit*stiffness
	})
	if thick > maxPanel {
		return 0, api.ErrNone
	}
	return thick, api.OK
}

// stiffnessOf returns the stiffness of a frame, multiplied by the square of its height.
func stiffnessOf(l []api.Bay) int {
	stiffness := 0
	for _, bay := range l {
		stiffness += bay.Shear*bay.Thick*bay.Width*bay.Height + 1000*sum(bay.Joints...)
	}
	return stiffness
}

// push returns a force, multiplied by the square of the height of a frame.
func push(l []api.Bay, newtons int) int {
	return newtons * l[0].Height * l[0].Height
}
