package solid

import (
	"slices"

	"spokeshave/api"
)

// maxMove bounds the numbers of movements and of vectors that are turned.
const maxMove = 600000

// The turns: at first those that keep the handedness, then the mirror images.
const (
	countTurns  = 48
	firstMirror = 24
)

// signed is a signed permutation: the number i of an image is sign[i] times the number from[i] of the vector.
type signed struct {
	from, sign [3]int
}

// Move returns a solid that is moved by a vector.
func Move(s api.Solid, by [3]int) (api.Solid, api.Errno) {
	if e := Check(s); e != api.OK {
		return api.Solid{}, e
	}
	if !vector(by).within(maxMove) {
		return api.Solid{}, api.ErrRange
	}
	moved := changed(s, func(p api.Plane) api.Plane {
		return planeOf(normal(p), p.D+normal(p).times(by))
	})
	// A movement changes neither bounds nor inside: what can be wrong now is that a corner or a number D is too far away.
	if e := Check(moved); e != api.OK {
		return api.Solid{}, e
	}
	return moved, api.OK
}

// Turn returns the image of a solid.
func Turn(s api.Solid, turn int) (api.Solid, api.Errno) {
	if e := Check(s); e != api.OK {
		return api.Solid{}, e
	}
	if !isTurn(turn) {
		return api.Solid{}, api.ErrRange
	}
	t := turns()[turn]
	return changed(s, func(p api.Plane) api.Plane {
		return planeOf(t.image(normal(p)), p.D)
	}), api.OK
}

// Turned returns the image of a vector.
func Turned(v [3]int, turn int) ([3]int, api.Errno) {
	if !isTurn(turn) || !vector(v).within(maxMove) {
		return [3]int{}, api.ErrRange
	}
	return turns()[turn].image(v), api.OK
}

// Both returns the number of the turn that does one turn and then another one.
func Both(first, then int) (int, api.Errno) {
	if !isTurn(first) || !isTurn(then) {
		return 0, api.ErrRange
	}
	all := turns()
	return slices.Index(all[:], all[first].before(all[then])), api.OK
}

func isTurn(turn int) bool {
	return turn >= 0 && turn < countTurns
}

// changed returns a solid whose planes are those of another one, each one changed.
func changed(s api.Solid, change func(api.Plane) api.Plane) api.Solid {
	var to api.Solid
	for _, c := range s.Cells {
		planes := make([]api.Plane, 0, len(c.Planes))
		for _, p := range c.Planes {
			planes = append(planes, change(p))
		}
		to.Cells = append(to.Cells, api.Cell{Planes: planes})
	}
	return to
}

// turns returns all turns by their numbers.
func turns() [countTurns]signed {
	var all [countTurns]signed
	proper, mirrored := 0, firstMirror
	for i := range 3 {
		for j := range 3 {
			if i == j {
				continue
			}
			for signs := range 8 {
				t := signed{[3]int{i, j, 3 - i - j}, [3]int{sign(signs >> 2), sign(signs >> 1), sign(signs)}}
				if t.mirrors() {
					all[mirrored] = t
					mirrored++
				} else {
					all[proper] = t
					proper++
				}
			}
		}
	}
	return all
}

// sign returns -1 for an odd number, and 1 for an even one.
func sign(n int) int {
	return 1 - 2*(n&1)
}

func (t signed) image(v vector) vector {
	var w vector
	for i := range w {
		w[i] = t.sign[i] * v[t.from[i]]
	}
	return w
}

// mirrors reports whether the determinant of a turn is -1.
func (t signed) mirrors() bool {
	x, y, z := t.image(vector{1, 0, 0}), t.image(vector{0, 1, 0}), t.image(vector{0, 0, 1})
	return cross(x, y).times(z) < 0
}

// before returns the turn that does t and then another one.
func (t signed) before(then signed) signed {
	var both signed
	for i, from := range then.from {
		both.from[i] = t.from[from]
		both.sign[i] = then.sign[i] * t.sign[from]
	}
	return both
}
