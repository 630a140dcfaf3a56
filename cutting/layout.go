package cutting

import "spokeshave/api"

// laid is a layout whose regions are known as rectangles, by their numbers.
type laid struct {
	api.Layout
	regions []api.Rect
}

// pieces yields the places of the pieces by their regions.
func (l laid) pieces(yield func(api.Placed) bool) {
	for n, c := range l.Cuts {
		if isLeaf(c) && c.Blank >= 0 && !yield(api.Placed{Board: l.Board, Blank: c.Blank, At: l.regions[n]}) {
			return
		}
	}
}

// wastes yields the regions that are waste.
func (l laid) wastes(yield func(api.Rect) bool) {
	for n, c := range l.Cuts {
		if isWaste(c) && !yield(l.regions[n]) {
			return
		}
	}
}

func isLeaf(c api.Cut) bool  { return c.Low == 0 }
func isWaste(c api.Cut) bool { return isLeaf(c) && c.Blank == -1 }

// isFormed reports whether the fields of a region that have no meaning are 0.
func isFormed(c api.Cut) bool {
	if isLeaf(c) {
		return c == api.Cut{Blank: c.Blank}
	}
	return c.Blank == 0
}

// CheckLayout returns the error of a layout on a board.
func CheckLayout(b api.Board, t api.Trim, l api.Layout) api.Errno {
	_, e := lay(b, t, l)
	return e
}

// Regions returns the rectangles of all regions of a layout on a board.
func Regions(b api.Board, t api.Trim, l api.Layout) ([]api.Rect, api.Errno) {
	known, e := lay(b, t, l)
	if e != api.OK {
		return nil, e
	}
	return known.regions, api.OK
}

// lay returns a layout on a board with its regions, or the error of CheckLayout.
func lay(b api.Board, t api.Trim, l api.Layout) (laid, api.Errno) {
	whole, e := Usable(b, t)
	if e != api.OK {
		return laid{}, e
	}
	if e := checkTree(l.Cuts); e != api.OK {
		return laid{}, e
	}
	known := laid{Layout: l, regions: make([]api.Rect, len(l.Cuts))}
	known.regions[0] = whole
	for n, c := range l.Cuts {
		if isLeaf(c) {
			continue
		}
		r := known.regions[n]
		if size := sizeAlong(r, c); !within(1, size-1, c.At) {
			return laid{}, api.ErrRange
		}
		known.regions[c.Low], known.regions[c.High] = parted(r, c, t.Kerf)
	}
	return known, api.OK
}

// sizeAlong returns the size of a region in the direction in which a cut divides it.
func sizeAlong(r api.Rect, c api.Cut) int {
	if c.Across {
		return lengthOf(r)
	}
	return widthOf(r)
}

// checkTree returns the error of regions without regard to their sizes.
func checkTree(cuts []api.Cut) api.Errno {
	if len(cuts) == 0 {
		return api.ErrShape
	}
	if len(cuts) > api.MaxCuts {
		return api.ErrLarge
	}
	belongs := make([]bool, len(cuts))
	belongs[0] = true // it is the whole one
	for n, c := range cuts {
		if e := checkRegion(n, c, belongs); e != api.OK {
			return e
		}
		if !isLeaf(c) {
			belongs[c.Low], belongs[c.High] = true, true
		}
	}
	for _, is := range belongs {
		if !is {
			return api.ErrShape
		}
	}
	return api.OK
}

// checkRegion returns the error of a region, if it is known which regions belong to those before it.
func checkRegion(n int, c api.Cut, belongs []bool) api.Errno {
	switch {
	case !isFormed(c):
		return api.ErrForm
	case isLeaf(c) && !within(-1, api.MaxBlanks-1, c.Blank):
		return api.ErrRange
	case isLeaf(c):
		return api.OK
	case c.Low <= n || c.High <= n || c.High == c.Low:
		return api.ErrOrder
	case c.Low >= len(belongs) || c.High >= len(belongs):
		return api.ErrMissing
	case belongs[c.Low] || belongs[c.High]:
		return api.ErrExists
	}
	return api.OK
}
