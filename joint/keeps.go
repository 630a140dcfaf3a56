package joint

import (
	"slices"

	"spokeshave/api"
)

// Keeps returns what a member keeps of the box of a joint.
func Keeps(j api.Joint, member int) (api.Solid, api.Errno) {
	if e := checkMember(j, member); e != api.OK {
		return api.Solid{}, e
	}
	return api.Solid{Cells: kept(j, member)}, api.OK
}

// Gaps returns what nobody keeps of the box of a joint.
func Gaps(j api.Joint) (api.Solid, api.Errno) {
	if e := Check(j); e != api.OK {
		return api.Solid{}, e
	}
	return api.Solid{Cells: gaps(j)}, api.OK
}

// gaps returns the gaps of a right joint.
func gaps(j api.Joint) []api.Cell {
	if place, has := gapPlace(j.Kind); !has || j.Numbers[place] == 0 {
		return nil
	}
	if j.Kind == dowels {
		return rodsOf(j).gaps(makerOf(j))
	}
	return holeOf(j).gaps(makerOf(j))
}

// gapPlace returns which one of the numbers of a kind is its gap, and whether it has one.
func gapPlace(kind int) (int, bool) {
	switch kind {
	case stopped, tongue:
		return 1, true
	case dowels:
		return 5, true
	}
	return 0, false
}

// kept returns what a member of a right joint keeps.
func kept(j api.Joint, member int) []api.Cell {
	cell := makerOf(j)
	n := j.Numbers
	switch j.Kind {
	case lap:
		return []api.Cell{cell(layer(n[0], member))}
	case bridle:
		return keptOfBridle(cell, span{axisZ, n[0], n[1]}, member)
	case tenon, stopped, tongue:
		return holeOf(j).kept(cell, member)
	case dovetail:
		return tailsOf(j).kept(cell, member)
	case scarf:
		return keptOfScarf(cell, n, member)
	case fingers:
		return keptOfFingers(cell, j, member)
	case dowels:
		return rodsOf(j).kept(cell, j.Size[1], member)
	case spline:
		return slotOf(j).kept(cell, member)
	default: // three
		return keptOfThree(cell, n, member)
	}
}

// layer keeps what lies above a height, for A, or below it, for B.
func layer(height, member int) api.Plane {
	if member == memberA {
		return from(axisZ, height)
	}
	return to(axisZ, height)
}

func keptOfBridle(cell maker, middle span, member int) []api.Cell {
	if member == memberA {
		return around(cell, middle)
	}
	return []api.Cell{cell(inside(middle)...)}
}

func keptOfScarf(cell maker, n []int, member int) []api.Cell {
	x1, p, q := n[0], n[1], n[2]
	limit := api.Plane{A: p, C: -q, D: p * x1}
	if member == memberA {
		limit = opposite(limit)
	}
	return []api.Cell{cell(limit)}
}

// keptOfFingers returns every second finger; the first one is A's.
func keptOfFingers(cell maker, j api.Joint, member int) []api.Cell {
	ends := slices.Concat([]int{0}, j.Numbers, []int{j.Size[1]})
	var cells []api.Cell
	for i := range len(ends) - 1 {
		if i%2 == member {
			cells = append(cells, cell(inside(span{axisY, ends[i], ends[i+1]})...))
		}
	}
	return cells
}

func keptOfThree(cell maker, n []int, member int) []api.Cell {
	x, y := span{axisX, n[1], n[2]}, span{axisY, n[3], n[4]}
	if member == memberC {
		return []api.Cell{cell(inside(x, y)...)}
	}
	return around(cell.with(layer(n[0], member)), x, y)
}
