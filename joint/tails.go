package joint

import "spokeshave/api"

// tails is what A has in a dovetail: tails that are w wide at x = L, and k more on both sides at x = 0.
type tails struct {
	length, s, w, k int
	at              []int // where they begin at x = L
}

// tailsOf returns the tails of a dovetail whose s is not 0.
func tailsOf(j api.Joint) tails {
	length, s := j.Size[0], j.Numbers[0]
	return tails{length, s, j.Numbers[1], length / s, j.Numbers[2:]}
}

// pins returns how wide the pins of B, between the tails and at the sides of the box, are at x = 0; nowhere are they less wide.
func (d tails) pins(width int) []int {
	var pins []int
	end := 0
	for _, begin := range d.at {
		pins = append(pins, begin-d.k-end)
		end = begin + d.w + d.k
	}
	return append(pins, width-end)
}

func (d tails) kept(cell maker, member int) []api.Cell {
	var cells []api.Cell
	if member == memberA {
		for i := range len(d.at) {
			cells = append(cells, cell(d.lower(i), d.upper(i)))
		}
		return cells
	}
	for i := range len(d.at) + 1 {
		var limits []api.Plane
		if i > 0 {
			limits = append(limits, opposite(d.upper(i-1)))
		}
		if i < len(d.at) {
			limits = append(limits, opposite(d.lower(i)))
		}
		cells = append(cells, cell(limits...))
	}
	return cells
}

// lower keeps what lies behind the beginning of a tail.
func (d tails) lower(i int) api.Plane {
	return api.Plane{A: 1, B: -d.s, D: d.length - d.s*d.at[i]}
}

// upper keeps what lies ahead of the end of a tail.
func (d tails) upper(i int) api.Plane {
	return api.Plane{A: 1, B: d.s, D: d.length + d.s*(d.at[i]+d.w)}
}
