package shop

import (
	"iter"
	"slices"

	"spokeshave/api"
)

// Order returns the first order of the operations, lexicographically.
func Order(s api.Shop) ([]int, api.Errno) {
	if e := Check(s); e != api.OK {
		return nil, e
	}
	return inOrder(s.Operations), api.OK
}

// inOrder returns the first order of operations lexicographically; those in a circle, and those that need one of them, are not in it.
func inOrder(operations []api.Operation) []int {
	done := map[int]bool{}
	isReady := func(n int) bool {
		return !slices.ContainsFunc(operations[n].Needs, func(need int) bool { return !done[need] })
	}
	var order []int
	for n := range inTurn(len(operations), isReady) {
		done[n] = true
		order = append(order, n)
	}
	return order
}

// inTurn yields again and again, of the numbers from 0 on that are ready and were not yielded before, the least one.
func inTurn(count int, isReady func(n int) bool) iter.Seq[int] {
	return func(yield func(n int) bool) {
		yielded := map[int]bool{}
		for n := 0; n < count; n++ {
			if yielded[n] || !isReady(n) {
				continue
			}
			if !yield(n) {
				return
			}
			yielded[n] = true
			n = -1 // it may have made a lesser one ready
		}
	}
}
