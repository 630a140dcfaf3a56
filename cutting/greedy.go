package cutting

import (
	"cmp"
	"slices"

	"spokeshave/api"
)

// Greedy returns the greedy plan of a job.
func Greedy(j api.Job) ([]api.Layout, api.Errno) {
	if e := CheckJob(j); e != api.OK {
		return nil, e
	}
	return greedy(j, upTo(len(j.Stock)))
}

// Choose returns the boards that are left if those without which the greedy plan is possible, too, are left out one by one.
func Choose(j api.Job) ([]int, api.Errno) {
	if e := CheckJob(j); e != api.OK {
		return nil, e
	}
	left := upTo(len(j.Stock))
	if _, e := greedy(j, left); e != api.OK {
		return nil, e
	}
	for n := len(left) - 1; n >= 0; n-- {
		without := slices.Delete(slices.Clone(left), n, n+1)
		if _, e := greedy(j, without); e == api.OK {
			left = without
		}
	}
	return left, api.OK
}

// greedy returns the greedy plan of a job with some of its boards, or ErrNone or ErrLarge.
func greedy(j api.Job, boards []int) ([]api.Layout, api.Errno) {
	layouts := make([]laid, len(boards))
	for i, n := range boards {
		layouts[i] = untouched(n, usable(j.Stock[n], j.Trim))
	}
	for _, n := range inTurn(j.Blanks) {
		if !placeAll(j, n, layouts) {
			return nil, api.ErrNone
		}
	}
	var plan []api.Layout
	for _, l := range layouts {
		if len(l.Cuts) > api.MaxCuts {
			return nil, api.ErrLarge
		}
		if !isWaste(l.Cuts[0]) {
			plan = append(plan, l.Layout)
		}
	}
	return plan, api.OK
}

// untouched returns the layout of a board that is nothing but waste.
func untouched(board int, whole api.Rect) laid {
	return laid{api.Layout{Board: board, Cuts: []api.Cut{{Blank: -1}}}, []api.Rect{whole}}
}

// inTurn returns the numbers of blanks in the order in which their pieces are placed.
func inTurn(blanks []api.Blank) []int {
	turn := upTo(len(blanks))
	slices.SortStableFunc(turn, func(n, m int) int {
		a, b := blanks[n], blanks[m]
		return cmp.Or(cmp.Compare(b.Length*b.Width, a.Length*a.Width), cmp.Compare(b.Length, a.Length))
	})
	return turn
}

// placeAll places all pieces of a blank, or reports that one finds no place. A region without room for one of them has none for the next one, so that it is enough to go through the regions once.
func placeAll(j api.Job, number int, layouts []laid) bool {
	blank := j.Blanks[number]
	left := blank.Count
	for i := range layouts {
		l := &layouts[i]
		b := j.Stock[l.Board]
		if !suits(b, blank) {
			continue
		}
		for n := 0; left > 0 && n < len(l.Cuts); n++ {
			if !isWaste(l.Cuts[n]) {
				continue
			}
			if offset, found := offsetIn(l.regions[n], b, blank, j.Trim.Kerf); found {
				l.place(n, offset, number, blank, j.Trim.Kerf)
				left--
			}
		}
	}
	return left == 0
}

// offsetIn returns the least offset at which a piece fits into a region, or false if there is none.
func offsetIn(r api.Rect, b api.Board, blank api.Blank, kerf int) (int, bool) {
	if blank.Width > widthOf(r) {
		return 0, false
	}
	for offset := 0; offset+blank.Length <= lengthOf(r); {
		at := pieceAt(blank, r.X1+offset, r.Y1)
		end := endOfDefects(b, at)
		if end == at.X1 {
			return offset, true
		}
		// A defect is in the way until the piece begins behind it; and what is cut off ahead of the piece needs a kerf.
		offset = max(end-r.X1, kerf+1)
	}
	return 0, false
}

// endOfDefects returns where the last one of the defects ends that overlap a rectangle; if none does, where the rectangle begins.
func endOfDefects(b api.Board, r api.Rect) int {
	end := r.X1
	for _, d := range b.Defects {
		if common(d, r) != (api.Rect{}) {
			end = max(end, d.X2)
		}
	}
	return end
}

// place cuts a piece of a blank out of a region.
func (l *laid) place(n, offset, number int, blank api.Blank, kerf int) {
	if offset != 0 {
		n = l.cut(n, api.Cut{Across: true, At: offset - kerf}, kerf).High
	}
	if lengthOf(l.regions[n]) > blank.Length {
		n = l.cut(n, api.Cut{Across: true, At: blank.Length}, kerf).Low
	}
	if widthOf(l.regions[n]) > blank.Width {
		n = l.cut(n, api.Cut{At: blank.Width}, kerf).Low
	}
	l.Cuts[n] = api.Cut{Blank: number}
}

// cut cuts a region into two new ones, and returns the cut with their numbers.
func (l *laid) cut(n int, c api.Cut, kerf int) api.Cut {
	c.Low, c.High = len(l.Cuts), len(l.Cuts)+1
	low, high := parted(l.regions[n], c, kerf)
	l.Cuts[n] = c
	l.Cuts = append(l.Cuts, api.Cut{Blank: -1}, api.Cut{Blank: -1})
	l.regions = append(l.regions, low, high)
	return c
}
