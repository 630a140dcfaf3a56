package cutting

import (
	"strconv"

	"spokeshave/api"
	"spokeshave/timber"
)

// CheckPlan returns the error of a plan, with the place of the first piece that is not right.
func CheckPlan(j api.Job, plan []api.Layout) (api.Placed, api.Errno) {
	_, wrong, e := layAll(j, plan)
	return wrong, e
}

// Places returns the places of the pieces of a plan.
func Places(j api.Job, plan []api.Layout) ([]api.Placed, api.Errno) {
	layouts, _, e := layAll(j, plan)
	if e != api.OK {
		return nil, e
	}
	var places []api.Placed
	for _, l := range layouts {
		for p := range l.pieces {
			places = append(places, p)
		}
	}
	return places, api.OK
}

// AreasOf returns what becomes of the areas of the boards of a plan.
func AreasOf(j api.Job, plan []api.Layout) (api.Areas, api.Errno) {
	layouts, _, e := layAll(j, plan)
	if e != api.OK {
		return api.Areas{}, e
	}
	var areas api.Areas
	for _, l := range layouts {
		b := j.Stock[l.Board]
		areas.Trimmed += b.Length*b.Width - areaOf(l.regions[0])
		for p := range l.pieces {
			areas.Pieces += areaOf(p.At)
		}
		for r := range l.wastes {
			areas.Waste += areaOf(r)
		}
		for n, c := range l.Cuts {
			if !isLeaf(c) {
				areas.Kerf += areaOf(l.regions[n]) - areaOf(l.regions[c.Low]) - areaOf(l.regions[c.High])
			}
		}
	}
	return areas, api.OK
}

// Offcuts returns what is left by a plan and has at least some length and width, as boards.
func Offcuts(j api.Job, plan []api.Layout, least [2]int) ([]api.Board, api.Errno) {
	layouts, _, e := layAll(j, plan)
	if e != api.OK {
		return nil, e
	}
	if !within(1, api.MaxSize, least[:]...) {
		return nil, api.ErrRange
	}
	var boards []api.Board
	for _, l := range layouts {
		for r := range l.wastes {
			if lengthOf(r) < least[0] || widthOf(r) < least[1] {
				continue
			}
			offcut := cutOff(j.Stock[l.Board], r)
			offcut.Name = "o" + strconv.Itoa(len(boards)+1)
			boards = append(boards, offcut)
		}
	}
	if len(boards) > api.MaxBoards {
		return nil, api.ErrLarge
	}
	return boards, api.OK
}

// layAll returns the layouts of a plan with their regions, or the error of CheckPlan with its place.
func layAll(j api.Job, plan []api.Layout) ([]laid, api.Placed, api.Errno) {
	if e := CheckJob(j); e != api.OK {
		return nil, api.Placed{}, e
	}
	var layouts []laid
	used := make([]bool, len(j.Stock))
	for _, l := range plan {
		if !within(0, len(j.Stock)-1, l.Board) {
			return nil, api.Placed{}, api.ErrMissing
		}
		if used[l.Board] {
			return nil, api.Placed{}, api.ErrExists
		}
		used[l.Board] = true
		known, e := lay(j.Stock[l.Board], j.Trim, l)
		if e != api.OK {
			return nil, api.Placed{}, e
		}
		layouts = append(layouts, known)
	}
	if wrong, e := checkPieces(j, layouts); e != api.OK {
		return nil, wrong, e
	}
	return layouts, api.Placed{}, api.OK
}

// checkPieces returns the error of the pieces of a plan, with the place of the first one that is not right.
func checkPieces(j api.Job, layouts []laid) (api.Placed, api.Errno) {
	counts := make([]int, len(j.Blanks))
	for _, l := range layouts {
		for p := range l.pieces {
			if e := checkPiece(j, p); e != api.OK {
				return p, e
			}
			counts[p.Blank]++
		}
	}
	return api.Placed{}, checkCounts(j.Blanks, counts)
}

// checkPiece returns the error of a piece at its place.
func checkPiece(j api.Job, p api.Placed) api.Errno {
	if p.Blank >= len(j.Blanks) {
		return api.ErrMissing
	}
	b, blank := j.Stock[p.Board], j.Blanks[p.Blank]
	if !suits(b, blank) {
		return api.ErrKind
	}
	if p.At != pieceAt(blank, p.At.X1, p.At.Y1) {
		return api.ErrShape
	}
	if sound, e := timber.Sound(b, p.At); e != api.OK || !sound {
		return api.ErrDefect
	}
	return api.OK
}

// checkCounts returns the error of the numbers of pieces. That one is missing comes first, of whatever blank.
func checkCounts(blanks []api.Blank, counts []int) api.Errno {
	for n, blank := range blanks {
		if counts[n] < blank.Count {
			return api.ErrGap
		}
	}
	for n, blank := range blanks {
		if counts[n] > blank.Count {
			return api.ErrClash
		}
	}
	return api.OK
}
