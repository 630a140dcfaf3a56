package assembly

import (
	"spokeshave/api"
	"spokeshave/solid"
)

// At reports whether the parts of a set, moved by a vector, overlap no other part.
func At(l []api.Solid, out []int, by [3]int) (bool, api.Errno) {
	if e := Check(l); e != api.OK {
		return false, e
	}
	moved, e := readSet(out, len(l))
	if e != api.OK {
		return false, e
	}
	var others []api.Solid
	for part, s := range l {
		if !moved.has(part) {
			others = append(others, s)
		}
	}
	clear := true
	for part := range moved.each() {
		s, e := solid.Move(l[part], by)
		if e != api.OK {
			return false, e
		}
		overlap, e := overlapsAny(s, others)
		if e != api.OK {
			return false, e
		}
		// Another part may still have an error.
		clear = clear && !overlap
	}
	return clear, api.OK
}

// overlapsAny reports whether a solid overlaps some of others.
func overlapsAny(s api.Solid, others []api.Solid) (bool, api.Errno) {
	for _, other := range others {
		if _, overlap, e := solid.Clashes(s, other); overlap || e != api.OK {
			return overlap, e
		}
	}
	return false, api.OK
}
