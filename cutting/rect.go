package cutting

import "spokeshave/api"

// unlessEmpty returns a rectangle, or the empty one if it has no inside.
func unlessEmpty(r api.Rect) api.Rect {
	if r.X1 >= r.X2 || r.Y1 >= r.Y2 {
		return api.Rect{}
	}
	return r
}

// common returns what two rectangles have in common.
func common(a, b api.Rect) api.Rect {
	return unlessEmpty(api.Rect{X1: max(a.X1, b.X1), Y1: max(a.Y1, b.Y1), X2: min(a.X2, b.X2), Y2: min(a.Y2, b.Y2)})
}

func lengthOf(r api.Rect) int { return r.X2 - r.X1 }
func widthOf(r api.Rect) int  { return r.Y2 - r.Y1 }
func areaOf(r api.Rect) int   { return lengthOf(r) * widthOf(r) }

// pieceAt returns where a piece of a blank lies if it begins at a place.
func pieceAt(blank api.Blank, x, y int) api.Rect {
	return api.Rect{X1: x, Y1: y, X2: x + blank.Length, Y2: y + blank.Width}
}

// parted returns what a cut leaves of a region, Low and High.
func parted(r api.Rect, c api.Cut, kerf int) (api.Rect, api.Rect) {
	low, high := r, r
	if c.Across {
		low.X2 = r.X1 + c.At
		high.X1 = low.X2 + kerf
	} else {
		low.Y2 = r.Y1 + c.At
		high.Y1 = low.Y2 + kerf
	}
	return low, unlessEmpty(high)
}

// cutOff returns what lies in a rectangle of a board as a board.
func cutOff(b api.Board, r api.Rect) api.Board {
	part := b
	part.Length, part.Width, part.Defects = lengthOf(r), widthOf(r), nil
	for _, d := range b.Defects {
		if d = common(d, r); d != (api.Rect{}) {
			part.Defects = append(part.Defects, api.Rect{X1: d.X1 - r.X1, Y1: d.Y1 - r.Y1, X2: d.X2 - r.X1, Y2: d.Y2 - r.Y1})
		}
	}
	return part
}
