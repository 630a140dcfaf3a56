package joint

import (
	"slices"

	"spokeshave/api"
	"spokeshave/solid"
)

// Verify tells whether solids fill a box but for the gaps and overlap nowhere; beside some errors stand the numbers of the solids that they are about.
func Verify(size [3]int, members []api.Solid, gaps api.Solid) ([2]int, api.Errno) {
	all, e := checkAll(size, members, gaps)
	if e != api.OK {
		return [2]int{}, e
	}
	box, e := solid.OfBox(api.Box{X2: size[0], Y2: size[1], Z2: size[2]})
	if e != api.OK {
		return [2]int{}, e
	}
	if about, e := checkInside(box, all); e != api.OK {
		return about, e
	}
	if about, e := checkApart(all); e != api.OK {
		return about, e
	}
	return [2]int{}, checkFull(box, all)
}

// checkAll returns all solids, the gaps behind the members, or the first error that comes without a look at where they are.
func checkAll(size [3]int, members []api.Solid, gaps api.Solid) ([]api.Solid, api.Errno) {
	if !isSize(size) {
		return nil, api.ErrRange
	}
	if !within(1, api.MaxPieces, len(members)) {
		return nil, api.ErrShape
	}
	all := append(slices.Clone(members), gaps)
	cells := 0
	for _, s := range all {
		if e := solid.Check(s); e != api.OK {
			return nil, e
		}
		cells += len(s.Cells)
	}
	if cells > api.MaxCells {
		return nil, api.ErrLarge
	}
	return all, api.OK
}

// checkInside returns ErrRange, with its number twice, for the first solid that the box does not cover.
func checkInside(box api.Solid, all []api.Solid) ([2]int, api.Errno) {
	for i, s := range all {
		covers, e := solid.Covers(box, s)
		if e != api.OK {
			return [2]int{}, e
		}
		if !covers {
			return [2]int{i, i}, api.ErrRange
		}
	}
	return [2]int{}, api.OK
}

// checkApart returns ErrClash, with their numbers, for the first two solids that overlap.
func checkApart(all []api.Solid) ([2]int, api.Errno) {
	for i, a := range all {
		for k := i + 1; k < len(all); k++ {
			_, overlap, e := solid.Clashes(a, all[k])
			if e != api.OK {
				return [2]int{}, e
			}
			if overlap {
				return [2]int{i, k}, api.ErrClash
			}
		}
	}
	return [2]int{}, api.OK
}

// checkFull returns ErrGap if solids do not cover the box together.
func checkFull(box api.Solid, all []api.Solid) api.Errno {
	var together api.Solid
	for _, s := range all {
		together.Cells = append(together.Cells, s.Cells...)
	}
	covers, e := solid.Covers(together, box)
	if e == api.OK && !covers {
		return api.ErrGap
	}
	return e
}
