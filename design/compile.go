package design

import (
	"slices"

	"spokeshave/api"
	"spokeshave/solid"
)

// Compile returns a design with the values of its parameters and its pieces.
func Compile(d api.Design) (api.Compiled, api.Errno) {
	r, e := resolve(d)
	if e != api.OK {
		return api.Compiled{}, e
	}
	c, _, e := r.compile(func(piece) (api.Piece, bool) { return api.Piece{}, false })
	return c, e
}

// Update returns a design compiled, where pieces whose sources are the same are taken over from what was compiled before, and the names of the others.
func Update(c api.Compiled, d api.Design) (api.Compiled, []string, api.Errno) {
	before, e := sheetOf(c.Design)
	if e != api.OK {
		return api.Compiled{}, nil, e
	}
	if len(c.Values) != len(c.Design.Params) {
		return api.Compiled{}, nil, api.ErrShape
	}
	r, e := resolve(d)
	if e != api.OK {
		return api.Compiled{}, nil, e
	}
	old := version{before, map[string]int{}}
	for i, p := range c.Design.Params {
		old.values[p.Name] = c.Values[i]
	}
	pieces := numbersOf(c.Pieces, func(p api.Piece) string { return p.Name })
	return r.compile(func(p piece) (api.Piece, bool) {
		number, found := pieces[p.name]
		if !found || !haveSameSources(old, version{r.sheet, r.values}, p) {
			return api.Piece{}, false
		}
		return copiedPiece(c.Pieces[number]), true
	})
}

// compile returns the compiled design, where take returns the pieces that are there already, and the names of those that are not.
func (r *resolved) compile(take func(p piece) (api.Piece, bool)) (api.Compiled, []string, api.Errno) {
	c := api.Compiled{Design: copied(r.design), Values: r.listed(r.values)}
	var names []string
	for _, p := range r.pieces {
		made, taken := take(p)
		if !taken {
			var e api.Errno
			if made, e = r.build(p); e != api.OK {
				return api.Compiled{}, nil, e
			}
			names = append(names, p.name)
		}
		c.Pieces = append(c.Pieces, made)
	}
	return c, names, api.OK
}

// build makes a piece.
func (r *resolved) build(p piece) (api.Piece, api.Errno) {
	s, e := r.solidOf(p)
	if e != api.OK {
		return api.Piece{}, e
	}
	made := api.Piece{Name: p.name, Solid: s, Uses: r.named(r.pieceTexts(p))}
	if !p.loose {
		made.Blank = r.blanks[p.number]
		return made, api.OK
	}
	if made.Blank, e = solid.Bounds(s); e != api.OK {
		return api.Piece{}, e
	}
	return made, api.OK
}

// pieceTexts returns the texts of a piece.
func (s *sheet) pieceTexts(p piece) []string {
	if p.loose {
		return tieTexts(s.design.Ties[p.number])
	}
	return s.partTexts(p.number)
}

// version is a design with values of its parameters.
type version struct {
	*sheet
	values map[string]int
}

// haveSameSources reports whether a piece of the new version has the same sources in the old one.
func haveSameSources(old, now version, p piece) bool {
	same := hasSameRow
	if p.loose {
		same = hasSameTie
	}
	if !same(old.sheet, now.sheet, p) {
		return false
	}
	// The texts are the same, so that the old version has the same names.
	return !slices.ContainsFunc(now.named(now.pieceTexts(p)), func(name string) bool {
		return old.values[name] != now.values[name]
	})
}

// hasSameRow reports whether a part has the same row and the same ties. Equal ties have the part at the same place among their members.
func hasSameRow(old, now *sheet, p piece) bool {
	number, found := old.parts[p.name]
	return found && old.design.Parts[number] == now.design.Parts[p.number] &&
		slices.EqualFunc(old.tiesOf(p.name), now.tiesOf(p.name), func(i, k int) bool {
			return equalTies(old.design.Ties[i], now.design.Ties[k])
		})
}

// hasSameTie reports whether the tie of a loose member is the same.
func hasSameTie(old, now *sheet, p piece) bool {
	return p.number < len(old.design.Ties) && equalTies(old.design.Ties[p.number], now.design.Ties[p.number])
}

func equalTies(a, b api.Tie) bool {
	return a.Kind == b.Kind && slices.Equal(a.Parts, b.Parts) && a.Turn == b.Turn &&
		a.At == b.At && a.Size == b.Size && slices.Equal(a.Numbers, b.Numbers)
}

// copiedPiece returns a piece that shares no memory with the one that is given.
func copiedPiece(p api.Piece) api.Piece {
	p.Solid.Cells = slices.Clone(p.Solid.Cells)
	for i, c := range p.Solid.Cells {
		p.Solid.Cells[i].Planes = slices.Clone(c.Planes)
	}
	p.Uses = slices.Clone(p.Uses)
	return p
}
