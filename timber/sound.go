package timber

import (
	"cmp"
	"slices"

	"spokeshave/api"
)

// Area returns the area of a board.
func Area(b api.Board) (int, api.Errno) {
	if e := checkBoardAlone(b); e != api.OK {
		return 0, e
	}
	return b.Length * b.Width, api.OK
}

// Defective returns the area that the defects of a board cover together.
func Defective(b api.Board) (int, api.Errno) {
	if e := checkBoardAlone(b); e != api.OK {
		return 0, e
	}
	return defective(b), api.OK
}

// Sound reports whether no defect of a board overlaps a rectangle.
func Sound(b api.Board, r api.Rect) (bool, api.Errno) {
	if e := checkBoardAlone(b); e != api.OK {
		return false, e
	}
	if e := checkRect(b, r); e != api.OK {
		return false, e
	}
	disturbs := func(d api.Rect) bool {
		return d.X1 < r.X2 && r.X1 < d.X2 && d.Y1 < r.Y2 && r.Y1 < d.Y2
	}
	return !slices.ContainsFunc(b.Defects, disturbs), api.OK
}

// Clear returns the clear lengths of a board.
func Clear(b api.Board) ([]api.Interval, api.Errno) {
	if e := checkBoardAlone(b); e != api.OK {
		return nil, e
	}
	return clearOf(b), api.OK
}

// Widest returns the first one of the widest sound rectangles of a length.
func Widest(b api.Board, length int) (api.Rect, api.Errno) {
	if e := checkBoardAlone(b); e != api.OK {
		return api.Rect{}, e
	}
	if !within(1, b.Length, length) {
		return api.Rect{}, api.ErrRange
	}
	r := widest(b, length)
	if r == (api.Rect{}) {
		return api.Rect{}, api.ErrNone
	}
	return r, api.OK
}

// clearOf returns the clear lengths of a board without errors.
func clearOf(b api.Board) []api.Interval {
	var taken []api.Interval
	for _, d := range b.Defects {
		taken = append(taken, api.Interval{Lo: d.X1, Hi: d.X2})
	}
	return openings(taken, b.Length)
}

// defective returns the area under defects, strip by strip: between two neighbouring ends of defects the same ones lie across all of a strip.
func defective(b api.Board) int {
	var ends []int
	for _, d := range b.Defects {
		ends = append(ends, d.X1, d.X2)
	}
	slices.Sort(ends)
	area, last := 0, 0
	for _, end := range ends {
		covered := b.Width
		for _, o := range openings(across(b, last, end), b.Width) {
			covered -= o.Hi - o.Lo
		}
		area += (end - last) * covered
		last = end
	}
	return area
}

// widest returns the rectangle of Widest, or the zero one. It has to look only at the beginning of the board and behind each defect: what begins elsewhere can be moved towards the beginning of the board until it meets one of these places, and is still sound.
func widest(b api.Board, length int) api.Rect {
	begins := []int{0}
	for _, d := range b.Defects {
		if d.X2 <= b.Length-length {
			begins = append(begins, d.X2)
		}
	}
	slices.Sort(begins)
	var best api.Rect
	for _, x := range begins {
		for _, o := range openings(across(b, x, x+length), b.Width) {
			if o.Hi-o.Lo > best.Y2-best.Y1 {
				best = api.Rect{X1: x, Y1: o.Lo, X2: x + length, Y2: o.Hi}
			}
		}
	}
	return best
}

// across returns where, across the board, the defects lie that overlap what is from x1 to x2.
func across(b api.Board, x1, x2 int) []api.Interval {
	var taken []api.Interval
	for _, d := range b.Defects {
		if d.X1 < x2 && x1 < d.X2 {
			taken = append(taken, api.Interval{Lo: d.Y1, Hi: d.Y2})
		}
	}
	return taken
}

// openings returns the longest intervals from 0 to end that overlap nothing that is taken, ascending. It sorts what is taken.
func openings(taken []api.Interval, end int) []api.Interval {
	slices.SortFunc(taken, func(a, b api.Interval) int { return cmp.Compare(a.Lo, b.Lo) })
	var open []api.Interval
	free := 0
	for _, t := range append(taken, api.Interval{Lo: end, Hi: end}) {
		if t.Lo > free {
			open = append(open, api.Interval{Lo: free, Hi: t.Lo})
		}
		free = max(free, t.Hi)
	}
	return open
}
