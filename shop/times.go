package shop

import (
	"slices"

	"spokeshave/api"
)

// Heads returns the head of each operation.
func Heads(s api.Shop) ([]int, api.Errno) {
	if e := Check(s); e != api.OK {
		return nil, e
	}
	return headsOf(s), api.OK
}

func headsOf(s api.Shop) []int {
	p := scheduleOf(s, nil)
	for _, n := range inOrder(s.Operations) {
		p.starts[n] = p.readyAt(n)
	}
	return p.list()
}

// Tails returns the tail of each operation.
func Tails(s api.Shop) ([]int, api.Errno) {
	if e := Check(s); e != api.OK {
		return nil, e
	}
	return tailsOf(s), api.OK
}

func tailsOf(s api.Shop) []int {
	p := scheduleOf(s, nil)
	tails := make([]int, len(s.Operations))
	for _, n := range slices.Backward(inOrder(s.Operations)) {
		// Those that need it have made the tail longer already.
		tails[n] = max(tails[n], s.Operations[n].Minutes)
		for _, need := range s.Operations[n].Needs {
			tails[need] = max(tails[need], p.holding(need)+tails[n])
		}
	}
	return tails
}

// greatest returns the greatest one of some numbers that are not negative, or 0.
func greatest(numbers []int) int {
	most := 0
	for _, n := range numbers {
		most = max(most, n)
	}
	return most
}

// Critical returns the greatest tail, and the first chain of operations that makes it so long.
func Critical(s api.Shop) (int, []int, api.Errno) {
	if e := Check(s); e != api.OK {
		return 0, nil, e
	}
	tails := tailsOf(s)
	length := greatest(tails)
	return length, chainOf(s, tails, length), api.OK
}

// chainOf returns the first chain with a length. The first one of its operations needs none, because otherwise that one would have a greater tail.
func chainOf(s api.Shop, tails []int, length int) []int {
	p := scheduleOf(s, nil)
	var chain []int
	for left := length; left > 0; {
		n := 0
		for tails[n] != left || len(chain) > 0 && !slices.Contains(s.Operations[n].Needs, chain[len(chain)-1]) {
			n++
		}
		chain = append(chain, n)
		left -= p.holding(n) // behind the last one nothing is left: at most its cure is
	}
	return chain
}

// Latest returns the latest start of each operation with which a deadline can be kept.
func Latest(s api.Shop, deadline int) ([]int, api.Errno) {
	if e := firstError(Check(s), checkRange(0, maxTime, deadline)); e != api.OK {
		return nil, e
	}
	heads, latest := headsOf(s), tailsOf(s)
	for n, tail := range latest {
		latest[n] = deadline - tail
		if heads[n] > latest[n] {
			return nil, api.ErrLate
		}
	}
	return latest, api.OK
}
