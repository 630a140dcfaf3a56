package cutting

import (
	"slices"

	"spokeshave/api"
)

const (
	maxLeaves = 400    // of a flitch, and on a face
	maxLeaf   = 100000 // the number of a leaf
)

// checkFlitch returns the error of a flitch.
func checkFlitch(flitch []int) api.Errno {
	switch {
	case len(flitch) > maxLeaves:
		return api.ErrLarge
	case !within(1, maxLeaf, flitch...):
		return api.ErrRange
	}
	for i := range flitch {
		if i > 0 && flitch[i] <= flitch[i-1] {
			return api.ErrOrder
		}
	}
	return api.OK
}

// checkFaces returns the error of a flitch and of a number of leaves.
func checkFaces(flitch []int, faces int) api.Errno {
	if e := checkFlitch(flitch); e != api.OK {
		return e
	}
	if !within(1, maxLeaves, faces) {
		return api.ErrRange
	}
	return api.OK
}

// follow reports whether leaves follow each other.
func follow(leaves []int) bool {
	for i := range leaves {
		if i > 0 && leaves[i] != leaves[i-1]+1 {
			return false
		}
	}
	return true
}

// Leaves returns the first place from which so many leaves follow each other.
func Leaves(flitch []int, faces int) (int, api.Errno) {
	if e := checkFaces(flitch, faces); e != api.OK {
		return 0, e
	}
	for from := range len(flitch) - faces + 1 {
		if follow(flitch[from : from+faces]) {
			return from, api.OK
		}
	}
	return 0, api.ErrNone
}

// Match returns the match of the leaves from a place on.
func Match(flitch []int, from, faces int) (api.Veneer, api.Errno) {
	if e := checkFaces(flitch, faces); e != api.OK {
		return api.Veneer{}, e
	}
	if !within(0, len(flitch)-faces, from) {
		return api.Veneer{}, api.ErrMissing
	}
	leaves := slices.Clone(flitch[from : from+faces])
	if !follow(leaves) {
		return api.Veneer{}, api.ErrOrder
	}
	return api.Veneer{Leaves: leaves, Flip: inTurns(faces)}, api.OK
}

// inTurns returns how leaves lie in turn, the first one as it is.
func inTurns(leaves int) []bool {
	flip := make([]bool, leaves)
	for i := range flip {
		flip[i] = i%2 == 1
	}
	return flip
}

// CheckMatch returns the error of a match.
func CheckMatch(flitch []int, v api.Veneer) api.Errno {
	if e := checkFlitch(flitch); e != api.OK {
		return e
	}
	if len(v.Leaves) == 0 || len(v.Leaves) != len(v.Flip) {
		return api.ErrShape
	}
	for _, leaf := range v.Leaves {
		if _, found := slices.BinarySearch(flitch, leaf); !found {
			return api.ErrMissing
		}
	}
	switch {
	case !follow(v.Leaves):
		return api.ErrOrder
	case !slices.Equal(v.Flip, inTurns(len(v.Flip))):
		return api.ErrForm
	}
	return api.OK
}
