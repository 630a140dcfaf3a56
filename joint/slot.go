package joint

import "spokeshave/api"

// slot is where a spline is: at most h from x + y = c, and at most d from x = y, which parts A and B.
type slot struct {
	c, h, d int
	height  span
}

func slotOf(j api.Joint) slot {
	n := j.Numbers
	return slot{n[0], n[1], n[2], span{axisZ, n[3], n[4]}}
}

func (s slot) kept(cell maker, member int) []api.Cell {
	begin, end := api.Plane{A: 1, B: 1, D: s.c - s.h}, api.Plane{A: 1, B: 1, D: s.c + s.h}
	along := append(inside(s.height), opposite(begin), end)
	if member > memberB {
		return []api.Cell{cell.with(along...)(api.Plane{A: 1, B: -1, D: s.d}, api.Plane{A: -1, B: 1, D: s.d})}
	}
	half, bottom := api.Plane{A: -1, B: 1}, api.Plane{A: -1, B: 1, D: -s.d}
	if member == memberB {
		half, bottom = opposite(half), api.Plane{A: 1, B: -1, D: -s.d}
	}
	cell = cell.with(half)
	between := cell.with(inside(s.height)...)
	return append(around(cell, s.height), between(begin), between(opposite(end)), cell.with(along...)(bottom))
}
