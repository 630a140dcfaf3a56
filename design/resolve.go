package design

import (
	"slices"

	"spokeshave/api"
	"spokeshave/joint"
)

// Resolve returns the error of a resolved design.
func Resolve(d api.Design) api.Errno {
	_, e := resolve(d)
	return e
}

// resolved is a design whose expressions have values.
type resolved struct {
	*sheet
	values map[string]int // of the parameters
	blanks []api.Box      // of the parts
	ties   []tie
	spaces []api.Box
	pieces []piece
}

// tie is a joint at its setting, and the box of it.
type tie struct {
	joint api.Joint
	at    api.Setting
	box   api.Box
}

// resolve returns a resolved design; it shares memory with the one that is given.
func resolve(d api.Design) (*resolved, api.Errno) {
	s, e := sheetOf(d)
	if e != api.OK {
		return nil, e
	}
	r := &resolved{sheet: s}
	for _, find := range []func() api.Errno{r.findValues, r.findBlanks, r.findTies, r.findSpaces, r.findPieces} {
		if e := find(); e != api.OK {
			return nil, e
		}
	}
	return r, api.OK
}

func (r *resolved) findValues() (e api.Errno) {
	r.values, e = r.sheet.values()
	return e
}

func (r *resolved) findBlanks() api.Errno {
	for _, row := range r.design.Parts {
		box, e := r.boxOf(row.At, row.Size)
		if e != api.OK {
			return e
		}
		r.blanks = append(r.blanks, box)
	}
	return api.OK
}

func (r *resolved) findTies() api.Errno {
	for _, t := range r.design.Ties {
		found, e := r.tieOf(t)
		if e != api.OK {
			return e
		}
		for k, earlier := range r.ties {
			if haveCommon(t.Parts, r.design.Ties[k].Parts) && overlap(found.box, earlier.box) {
				return api.ErrClash
			}
		}
		r.ties = append(r.ties, found)
	}
	return api.OK
}

func (r *resolved) findSpaces() api.Errno {
	for _, s := range r.design.Spaces {
		box, e := r.boxOf(s.At, s.Size)
		if e != api.OK {
			return e
		}
		r.spaces = append(r.spaces, box)
	}
	return api.OK
}

// valuesOf returns the values of texts.
func (r *resolved) valuesOf(texts ...string) ([]int, api.Errno) {
	var l []int
	for _, text := range texts {
		n, e := evaluate(r.exprs[text], func(name string) (int, api.Errno) { return r.values[name], api.OK })
		if e != api.OK {
			return nil, e
		}
		l = append(l, n)
	}
	return l, api.OK
}

// boxOf returns the box from a place to this place plus sizes.
func (r *resolved) boxOf(at, size [3]string) (api.Box, api.Errno) {
	n, e := r.valuesOf(slices.Concat(at[:], size[:])...)
	if e != api.OK {
		return api.Box{}, e
	}
	low, sizes := n[:3], n[3:]
	if slices.Min(sizes) < 1 {
		return api.Box{}, api.ErrForm
	}
	var high [3]int
	for axis := range high {
		high[axis] = low[axis] + sizes[axis]
		if low[axis] < -api.MaxPlace || high[axis] > api.MaxPlace {
			return api.Box{}, api.ErrRange
		}
	}
	return api.Box{X1: low[0], Y1: low[1], Z1: low[2], X2: high[0], Y2: high[1], Z2: high[2]}, api.OK
}

// tieOf returns a tie with its values.
func (r *resolved) tieOf(t api.Tie) (tie, api.Errno) {
	n, e := r.valuesOf(tieTexts(t)...)
	if e != api.OK {
		return tie{}, e
	}
	kind, e := joint.KindOf(t.Kind)
	if e != api.OK {
		return tie{}, e
	}
	found := tie{
		joint: api.Joint{Kind: kind, Size: [3]int(n[3:6]), Numbers: slices.Clone(n[6:])},
		at:    api.Setting{At: [3]int(n[:3]), Turn: t.Turn},
	}
	if found.box, e = joint.Boxed(found.joint, found.at); e != api.OK {
		return tie{}, e
	}
	return found, api.OK
}

// haveCommon reports whether two lists have a name in common.
func haveCommon(a, b []string) bool {
	return slices.ContainsFunc(a, func(name string) bool { return slices.Contains(b, name) })
}

// overlap reports whether two boxes have inside in common.
func overlap(a, b api.Box) bool {
	return a.X1 < b.X2 && b.X1 < a.X2 && a.Y1 < b.Y2 && b.Y1 < a.Y2 && a.Z1 < b.Z2 && b.Z1 < a.Z2
}
