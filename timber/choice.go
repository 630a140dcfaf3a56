package timber

import "spokeshave/api"

// Fitting returns the numbers of the boards of which a piece of a blank can be cut.
func Fitting(l []api.Species, stock []api.Board, want api.Blank) ([]int, api.Errno) {
	if e := CheckStock(l, stock); e != api.OK {
		return nil, e
	}
	if e := checkBlank(want); e != api.OK {
		return nil, e
	}
	return choose(stock, func(b api.Board) bool {
		if b.Species != want.Species || b.Thick < want.Thick || b.Length < want.Length {
			return false
		}
		r := widest(b, want.Length)
		return r.Y2-r.Y1 >= want.Width
	}), api.OK
}

// checkBlank returns the error of a blank.
func checkBlank(want api.Blank) api.Errno {
	switch {
	case !isName(want.Name), !isName(want.Species):
		return api.ErrName
	case !within(1, api.MaxSize, want.Length, want.Width, want.Thick), !within(1, api.MaxCount, want.Count):
		return api.ErrRange
	}
	return api.OK
}

// choose returns the numbers of the boards that are looked for.
func choose(stock []api.Board, lookedFor func(b api.Board) bool) []int {
	var chosen []int
	for i, b := range stock {
		if lookedFor(b) {
			chosen = append(chosen, i)
		}
	}
	return chosen
}
