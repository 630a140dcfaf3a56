package design

import (
	"slices"
	"strconv"

	"spokeshave/api"
	"spokeshave/joint"
	"spokeshave/solid"
)

// piece is a part, or the loose member of a tie.
type piece struct {
	name   string
	loose  bool
	number int // of the part, or of the tie
	member int // of the loose member among all members of the joint
}

// Pieces returns the names of all pieces of a design.
func Pieces(d api.Design) ([]string, api.Errno) {
	r, e := resolve(d)
	if e != api.OK {
		return nil, e
	}
	var names []string
	for _, p := range r.pieces {
		names = append(names, p.name)
	}
	return names, api.OK
}

// Blank returns the blank of a piece.
func Blank(d api.Design, piece string) (api.Box, api.Errno) {
	r, p, e := findPiece(d, piece)
	if e != api.OK {
		return api.Box{}, e
	}
	if !p.loose {
		return r.blanks[p.number], api.OK
	}
	s, e := r.solidOf(p)
	if e != api.OK {
		return api.Box{}, e
	}
	return solid.Bounds(s)
}

// Tie returns the joint and the setting of a tie.
func Tie(d api.Design, tie int) (api.Joint, api.Setting, api.Errno) {
	r, e := resolve(d)
	if e != api.OK {
		return api.Joint{}, api.Setting{}, e
	}
	if tie < 0 || tie >= len(r.ties) {
		return api.Joint{}, api.Setting{}, api.ErrMissing
	}
	return r.ties[tie].joint, r.ties[tie].at, api.OK
}

// Solid returns the solid of a piece.
func Solid(d api.Design, piece string) (api.Solid, api.Errno) {
	r, p, e := findPiece(d, piece)
	if e != api.OK {
		return api.Solid{}, e
	}
	return r.solidOf(p)
}

// Solids returns the solids of all pieces.
func Solids(d api.Design) ([]api.Solid, api.Errno) {
	r, e := resolve(d)
	if e != api.OK {
		return nil, e
	}
	return r.solids()
}

// findPiece returns a resolved design and one of its pieces.
func findPiece(d api.Design, name string) (*resolved, piece, api.Errno) {
	r, e := resolve(d)
	if e != api.OK {
		return nil, piece{}, e
	}
	i := slices.IndexFunc(r.pieces, func(p piece) bool { return p.name == name })
	if i < 0 {
		return nil, piece{}, api.ErrMissing
	}
	return r, r.pieces[i], api.OK
}

// findPieces makes the list of the parts and, behind them, the loose members.
func (r *resolved) findPieces() api.Errno {
	for i, row := range r.design.Parts {
		r.pieces = append(r.pieces, piece{name: row.Name, number: i})
	}
	for i, t := range r.ties {
		loose, e := joint.Loose(t.joint)
		if e != api.OK {
			return e
		}
		for k := range loose {
			r.pieces = append(r.pieces, piece{
				name:   "j" + strconv.Itoa(i) + "-" + strconv.Itoa(k),
				loose:  true,
				number: i,
				member: len(r.design.Ties[i].Parts) + k,
			})
		}
	}
	return api.OK
}

// solids returns the solids of all pieces.
func (r *resolved) solids() ([]api.Solid, api.Errno) {
	var l []api.Solid
	for _, p := range r.pieces {
		s, e := r.solidOf(p)
		if e != api.OK {
			return nil, e
		}
		l = append(l, s)
	}
	return l, api.OK
}

func (r *resolved) solidOf(p piece) (api.Solid, api.Errno) {
	if p.loose {
		return r.kept(p.number, p.member)
	}
	return r.solidOfPart(p.number)
}

// kept returns what a member keeps of the box of a tie.
func (r *resolved) kept(tie, member int) (api.Solid, api.Errno) {
	return joint.Placed(r.ties[tie].joint, member, r.ties[tie].at)
}

// solidOfPart returns the blank without the boxes of the joints of a part, and what the part keeps in them.
func (r *resolved) solidOfPart(number int) (api.Solid, api.Errno) {
	left, e := solid.OfBox(r.blanks[number])
	if e != api.OK {
		return api.Solid{}, e
	}
	part := r.design.Parts[number].Name
	ties := r.tiesOf(part)
	boxes, e := r.boxesOf(ties)
	if e != api.OK {
		return api.Solid{}, e
	}
	if left, e = solid.Minus(left, boxes); e != api.OK {
		return api.Solid{}, e
	}
	for _, tie := range ties {
		kept, e := r.kept(tie, slices.Index(r.design.Ties[tie].Parts, part))
		if e != api.OK {
			return api.Solid{}, e
		}
		if left, e = solid.Join(left, kept); e != api.OK {
			return api.Solid{}, e
		}
	}
	return left, api.OK
}

// boxesOf returns the boxes of ties as the cells of one solid.
func (r *resolved) boxesOf(ties []int) (api.Solid, api.Errno) {
	var boxes api.Solid
	for _, tie := range ties {
		box, e := solid.OfBox(r.ties[tie].box)
		if e != api.OK {
			return api.Solid{}, e
		}
		boxes.Cells = append(boxes.Cells, box.Cells...)
	}
	return boxes, api.OK
}
