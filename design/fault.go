package design

import (
	"slices"

	"spokeshave/api"
	"spokeshave/solid"
)

// The kinds of faults.
const (
	piecesOverlap = iota
	notFilled
	notClear
)

// whole is a resolved design with the solids of its pieces, and boxes around them. It is only made to look for faults: pieces whose boxes are apart need no closer look.
type whole struct {
	*resolved
	solids []api.Solid
	around []api.Box
}

// Rest returns what the pieces leave of a space.
func Rest(d api.Design, space int) (api.Solid, api.Errno) {
	r, e := resolve(d)
	if e != api.OK {
		return api.Solid{}, e
	}
	if space < 0 || space >= len(r.spaces) {
		return api.Solid{}, api.ErrMissing
	}
	w, e := r.whole()
	if e != api.OK {
		return api.Solid{}, e
	}
	return w.rest(space)
}

// Faults returns all faults of a design.
func Faults(d api.Design) ([]api.Fault, api.Errno) {
	r, e := resolve(d)
	if e != api.OK {
		return nil, e
	}
	w, e := r.whole()
	if e != api.OK {
		return nil, e
	}
	faults, e := w.overlaps()
	if e != api.OK {
		return nil, e
	}
	for i, s := range d.Spaces {
		find := w.gap
		if s.Kind == toClear {
			find = w.intruders
		}
		more, e := find(i)
		if e != api.OK {
			return nil, e
		}
		faults = append(faults, more...)
	}
	return faults, api.OK
}

// CheckFault accepts a fault of a design with a right witness.
func CheckFault(d api.Design, f api.Fault) api.Errno {
	r, e := resolve(d)
	if e != api.OK {
		return e
	}
	w, e := r.whole()
	if e != api.OK {
		return e
	}
	switch f.Kind {
	case piecesOverlap:
		return w.checkOverlap(f)
	case notFilled:
		return w.checkGap(f)
	case notClear:
		return w.checkIntruder(f)
	}
	return api.ErrProof
}

// Accept returns OK if a design has no faults, and otherwise what the first one is.
func Accept(d api.Design) api.Errno {
	faults, e := Faults(d)
	switch {
	case e != api.OK:
		return e
	case len(faults) == 0:
		return api.OK
	case faults[0].Kind == notFilled:
		return api.ErrGap
	}
	return api.ErrClash
}

// whole makes the solids of a resolved design.
func (r *resolved) whole() (*whole, api.Errno) {
	solids, e := r.solids()
	if e != api.OK {
		return nil, e
	}
	w := &whole{resolved: r, solids: solids}
	for _, s := range solids {
		box, e := solid.Bounds(s)
		if e != api.OK {
			return nil, e
		}
		w.around = append(w.around, box)
	}
	return w, api.OK
}

// rest returns what the pieces leave of a space.
func (w *whole) rest(space int) (api.Solid, api.Errno) {
	left, e := solid.OfBox(w.spaces[space])
	for i, s := range w.solids {
		if e != api.OK {
			return api.Solid{}, e
		}
		if overlap(w.around[i], w.spaces[space]) {
			left, e = solid.Minus(left, s)
		}
	}
	return left, e
}

// overlaps returns the faults of pieces that overlap.
func (w *whole) overlaps() ([]api.Fault, api.Errno) {
	var faults []api.Fault
	for a := range w.solids {
		for b := a + 1; b < len(w.solids); b++ {
			if !overlap(w.around[a], w.around[b]) {
				continue
			}
			o, found, e := solid.Clashes(w.solids[a], w.solids[b])
			if e != api.OK {
				return nil, e
			}
			if found {
				faults = append(faults, api.Fault{Kind: piecesOverlap, A: a, B: b, Overlap: o})
			}
		}
	}
	return faults, api.OK
}

// gap returns the fault of a space that has to be filled.
func (w *whole) gap(space int) ([]api.Fault, api.Errno) {
	rest, e := w.rest(space)
	if e != api.OK || len(rest.Cells) == 0 {
		return nil, e
	}
	corners, e := solid.Corners(rest.Cells[0])
	if e != api.OK {
		return nil, e
	}
	return []api.Fault{{Kind: notFilled, A: space, Overlap: api.Overlap{Corners: corners}}}, api.OK
}

// intruders returns the faults of a space that has to be clear.
func (w *whole) intruders(space int) ([]api.Fault, api.Errno) {
	box, e := solid.OfBox(w.spaces[space])
	if e != api.OK {
		return nil, e
	}
	var faults []api.Fault
	for i, s := range w.solids {
		if !overlap(w.around[i], w.spaces[space]) {
			continue
		}
		o, found, e := solid.Clashes(box, s)
		if e != api.OK {
			return nil, e
		}
		if found {
			faults = append(faults, api.Fault{Kind: notClear, A: space, B: i, Overlap: o})
		}
	}
	return faults, api.OK
}

func (w *whole) checkOverlap(f api.Fault) api.Errno {
	if f.A < 0 || f.A >= f.B || f.B >= len(w.solids) {
		return api.ErrProof
	}
	return proof(solid.CheckOverlap(w.solids[f.A], w.solids[f.B], f.Overlap) == api.OK)
}

func (w *whole) checkGap(f api.Fault) api.Errno {
	if f.A < 0 || f.A >= len(w.spaces) {
		return api.ErrMissing
	}
	rest, e := w.rest(f.A)
	if e != api.OK {
		return e
	}
	o := f.Overlap
	if w.design.Spaces[f.A].Kind != toFill || f.B != 0 || o.A < 0 || o.A >= len(rest.Cells) || o.B != 0 {
		return api.ErrProof
	}
	corners, e := solid.Corners(rest.Cells[o.A])
	return proof(e == api.OK && slices.Equal(o.Corners, corners))
}

func (w *whole) checkIntruder(f api.Fault) api.Errno {
	if f.A < 0 || f.A >= len(w.spaces) || w.design.Spaces[f.A].Kind != toClear || f.B < 0 || f.B >= len(w.solids) {
		return api.ErrProof
	}
	box, e := solid.OfBox(w.spaces[f.A])
	return proof(e == api.OK && solid.CheckOverlap(box, w.solids[f.B], f.Overlap) == api.OK)
}

// proof returns the error of a witness that is right or not.
func proof(right bool) api.Errno {
	if right {
		return api.OK
	}
	return api.ErrProof
}
