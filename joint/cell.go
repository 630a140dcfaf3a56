package joint

import (
	"slices"

	"spokeshave/api"
	"spokeshave/solid"
)

// The axes.
const (
	axisX = iota
	axisY
	axisZ
)

// maker makes the cell, in normal form, of what is beyond none of some planes in the box of a joint.
type maker func(limits ...api.Plane) api.Cell

// makerOf returns the maker that knows the box of a joint.
func makerOf(j api.Joint) maker {
	var box []api.Plane
	for axis, end := range j.Size {
		box = append(box, inside(span{axis, 0, end})...)
	}
	return func(limits ...api.Plane) api.Cell {
		// No error comes: a cell of a right joint has inside, and with its box at most 16 planes.
		c, _ := solid.Normal(api.Cell{Planes: slices.Concat(box, limits)})
		return c
	}
}

// with returns a maker whose cells have further limits.
func (cell maker) with(limits ...api.Plane) maker {
	return func(more ...api.Plane) api.Cell {
		return cell(slices.Concat(limits, more)...)
	}
}

// span is what lies between two places on an axis.
type span struct{ axis, low, high int }

func (s span) length() int {
	return s.high - s.low
}

// below keeps what lies ahead of a span.
func (s span) below() api.Plane {
	return to(s.axis, s.low)
}

// above keeps what lies behind a span.
func (s span) above() api.Plane {
	return from(s.axis, s.high)
}

// inside keeps what lies in all of some spans.
func inside(spans ...span) []api.Plane {
	var limits []api.Plane
	for _, s := range spans {
		limits = append(limits, from(s.axis, s.low), to(s.axis, s.high))
	}
	return limits
}

// from keeps what lies at a place on an axis or behind it.
func from(axis, place int) api.Plane {
	return opposite(to(axis, place))
}

// to keeps what lies at a place on an axis or ahead of it.
func to(axis, place int) api.Plane {
	var n [3]int
	n[axis] = 1
	return api.Plane{A: n[axisX], B: n[axisY], C: n[axisZ], D: place}
}

// opposite keeps what lies on a plane or beyond it.
func opposite(p api.Plane) api.Plane {
	return api.Plane{A: -p.A, B: -p.B, C: -p.C, D: -p.D}
}

// around returns the cells of what does not lie in all of some spans: outside of the first one, then in it, but outside of the next one, and so on.
func around(cell maker, spans ...span) []api.Cell {
	var cells []api.Cell
	for _, s := range spans {
		cells = append(cells, cell(s.below()), cell(s.above()))
		cell = cell.with(inside(s)...)
	}
	return cells
}
