package assembly

import (
	"iter"
	"math/bits"
	"slices"

	"spokeshave/api"
)

// set is a set of parts: bit n tells whether part n is in it.
type set uint16

// setOf returns the set of some parts.
func setOf(parts ...int) set {
	var s set
	for _, part := range parts {
		s |= 1 << part
	}
	return s
}

// readSet returns the set of a list of some of count parts, or the error of the list.
func readSet(list []int, count int) (set, api.Errno) {
	for _, part := range list {
		if part < 0 || part >= count {
			return 0, api.ErrMissing
		}
	}
	for i := range list[min(1, len(list)):] {
		if list[i] >= list[i+1] {
			return 0, api.ErrOrder
		}
	}
	return setOf(list...), api.OK
}

// has reports whether a part, or any number, is in a set.
func (s set) has(part int) bool {
	return part >= 0 && s>>part&1 == 1
}

func (s set) size() int {
	return bits.OnesCount16(uint16(s))
}

// within reports whether all parts of a set are in another one.
func (s set) within(other set) bool {
	return s&^other == 0
}

// each yields the parts of a set, ascending.
func (s set) each() iter.Seq[int] {
	return func(yield func(int) bool) {
		for part := range api.MaxPieces {
			if s.has(part) && !yield(part) {
				return
			}
		}
	}
}

// list returns the parts of a set, ascending.
func (s set) list() []int {
	return slices.Collect(s.each())
}
