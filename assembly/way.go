package assembly

import (
	"iter"
	"slices"

	"spokeshave/api"
)

// Ways returns all ways, in their order.
func Ways() []api.Way {
	return slices.Collect(ways())
}

// Opposite returns the opposite way.
func Opposite(w api.Way) (api.Way, api.Errno) {
	if e := checkWay(w); e != api.OK {
		return api.Way{}, e
	}
	return opposite(w), api.OK
}

func opposite(w api.Way) api.Way {
	return api.Way{X: -w.X, Y: -w.Y, Z: -w.Z}
}

// ways yields all ways, in their order.
func ways() iter.Seq[api.Way] {
	return func(yield func(api.Way) bool) {
		for i := range 27 {
			w := api.Way{X: i/9 - 1, Y: i/3%3 - 1, Z: i%3 - 1}
			if w != (api.Way{}) && !yield(w) {
				return
			}
		}
	}
}

// checkWay returns the error of a way.
func checkWay(w api.Way) api.Errno {
	for _, n := range [3]int{w.X, w.Y, w.Z} {
		if n < -1 || n > 1 {
			return api.ErrRange
		}
	}
	if w == (api.Way{}) {
		return api.ErrZero
	}
	return api.OK
}
