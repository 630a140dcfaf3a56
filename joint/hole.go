package joint

import "spokeshave/api"

// hole is where the tenon or the tongue of A is in B: it goes from the end of the box into a depth, and the gap lies behind it.
type hole struct {
	length, depth, gap int
	across             []span
}

// holeOf returns the hole of a tenon, stopped or not, or the groove of a tongue. The spans across are the last numbers of these kinds.
func holeOf(j api.Joint) hole {
	n := j.Numbers
	last := len(n) - 2
	z := span{axisZ, n[last], n[last+1]}
	if j.Kind == tongue {
		return hole{j.Size[0], n[0], n[1], []span{z}}
	}
	across := []span{{axisY, n[last-2], n[last-1]}, z}
	if j.Kind == tenon {
		return hole{j.Size[0], j.Size[0], 0, across}
	}
	return hole{j.Size[0], n[0], n[1], across}
}

func (h hole) kept(cell maker, member int) []api.Cell {
	in := cell.with(inside(h.across...)...)
	if member == memberA {
		return []api.Cell{in(from(axisX, h.length-h.depth))}
	}
	cells := around(cell, h.across...)
	if rest := h.length - h.depth - h.gap; rest > 0 {
		cells = append(cells, in(to(axisX, rest)))
	}
	return cells
}

func (h hole) gaps(cell maker) []api.Cell {
	end := h.length - h.depth
	return []api.Cell{cell.with(inside(h.across...)...)(inside(span{axisX, end - h.gap, end})...)}
}
