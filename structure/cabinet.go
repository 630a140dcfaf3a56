package structure

import (
	"cmp"
	"slices"

	"spokeshave/api"
)

// Limits of cabinets.
const (
	maxDepth = 3000
	maxGrams = 1000000
)

// CheckCabinet returns the error of a cabinet.
func CheckCabinet(c api.Cabinet) api.Errno {
	if e := checkRange(1, maxDepth, c.Depth); e != api.OK {
		return e
	}
	if len(c.Lumps) > api.MaxDrawers || len(c.Drawers) > api.MaxDrawers {
		return api.ErrLarge
	}
	for _, l := range c.Lumps {
		if e := checkMass(l.At, l.Grams); e != api.OK {
			return e
		}
	}
	for _, d := range c.Drawers {
		if e := firstError(checkMass(d.At, d.Grams), checkRange(0, maxDepth, d.Travel)); e != api.OK {
			return e
		}
	}
	return api.OK
}

func checkMass(at, grams int) api.Errno {
	return firstError(checkRange(-maxDepth, maxDepth, at), checkRange(0, maxGrams, grams))
}

// Balance returns the balance of a cabinet with some drawers open.
func Balance(c api.Cabinet, open []int) (int, api.Errno) {
	if e := firstError(CheckCabinet(c), checkOpen(open, len(c.Drawers))); e != api.OK {
		return 0, e
	}
	return balanceOf(c, open), api.OK
}

// checkOpen returns the error of a list of some of count drawers.
func checkOpen(open []int, count int) api.Errno {
	for _, drawer := range open {
		if drawer < 0 || drawer >= count {
			return api.ErrMissing
		}
	}
	for i := range open {
		if i > 0 && open[i-1] >= open[i] {
			return api.ErrOrder
		}
	}
	return api.OK
}

func balanceOf(c api.Cabinet, open []int) int {
	balance := 0
	for _, l := range c.Lumps {
		balance += l.Grams * (c.Depth - l.At)
	}
	for _, d := range c.Drawers {
		balance += d.Grams * (c.Depth - d.At)
	}
	for _, drawer := range open {
		balance -= loss(c.Drawers[drawer])
	}
	return balance
}

// loss returns by how much a balance falls if a drawer is opened.
func loss(d api.Drawer) int {
	return d.Grams * d.Travel
}

// Worst returns the drawers, at most so many, with which a cabinet has the least balance, and this balance.
func Worst(c api.Cabinet, most int) ([]int, int, api.Errno) {
	if e := firstError(CheckCabinet(c), checkMost(most)); e != api.OK {
		return nil, 0, e
	}
	open := worst(c.Drawers, most)
	return open, balanceOf(c, open), api.OK
}

func checkMost(most int) api.Errno {
	return checkRange(0, api.MaxDrawers, most)
}

// worst returns the drawers with the greatest losses, of equal ones the first; those without a loss are left out.
func worst(drawers []api.Drawer, most int) []int {
	var open []int
	for i, d := range drawers {
		if loss(d) > 0 {
			open = append(open, i)
		}
	}
	slices.SortStableFunc(open, func(i, j int) int { return cmp.Compare(loss(drawers[j]), loss(drawers[i])) })
	open = open[:min(most, len(open))]
	slices.Sort(open)
	return open
}

// Anchor returns the least mass whose pull towards the back at a height keeps a cabinet from tipping over.
func Anchor(c api.Cabinet, most, height int) (int, api.Errno) {
	if e := firstError(CheckCabinet(c), checkMost(most), checkRange(1, maxDepth, height)); e != api.OK {
		return 0, e
	}
	balance := balanceOf(c, worst(c.Drawers, most))
	return roundedUp(max(0, -balance), height), api.OK
}
