package shop

import "spokeshave/api"

// FewestSetups returns the first sequence of the operations of a machine with the fewest changes of setups, and their number.
func FewestSetups(s api.Shop, machine int) ([]int, int, api.Errno) {
	if e := firstError(Check(s), checkMachine(s, machine)); e != api.OK {
		return nil, 0, e
	}
	operations := operationsOn(s, machine)
	if len(operations) > api.MaxFew {
		return nil, 0, api.ErrLarge
	}
	f := finder{s, operations, allNeeds(s.Operations), map[state]way{}}
	best := f.best(state{last: -1})
	return best.sequence, best.changes, api.OK
}

// set is a set of operations: bit n tells whether operation n is in it.
type set uint64

func setOf(operations ...int) set {
	var s set
	for _, n := range operations {
		s |= 1 << n
	}
	return s
}

// allNeeds returns for each operation the set of all that it needs, directly or not.
func allNeeds(operations []api.Operation) []set {
	needs := make([]set, len(operations))
	for _, n := range inOrder(operations) {
		needs[n] = setOf(operations[n].Needs...)
		for _, need := range operations[n].Needs {
			needs[n] |= needs[need]
		}
	}
	return needs
}

// state is what a machine has done, and the last operation of this, or -1.
type state struct {
	done set
	last int
}

// way is a sequence of all operations that are left, and how often setups change in it.
type way struct {
	sequence []int
	changes  int
}

// finder finds the best ways for the operations of a machine, and keeps those that it has found.
type finder struct {
	api.Shop
	operations []int
	needs      []set
	found      map[state]way
}

// best returns the first way with the fewest changes from a state on.
func (f finder) best(from state) way {
	if known, ok := f.found[from]; ok {
		return known
	}
	if from.done == setOf(f.operations...) {
		return way{}
	}
	best := way{changes: len(f.operations)} // more than any way has
	for _, n := range f.operations {
		if !f.isNext(n, from.done) {
			continue
		}
		rest := f.best(state{from.done | setOf(n), n})
		if changes := rest.changes + f.change(from.last, n); changes < best.changes {
			best = way{append([]int{n}, rest.sequence...), changes}
		}
	}
	f.found[from] = best
	return best
}

// isNext reports whether an operation is not done yet, but all that it needs of this machine.
func (f finder) isNext(n int, done set) bool {
	return done&setOf(n) == 0 && f.needs[n]&setOf(f.operations...)&^done == 0
}

// change returns 1 if the setup changes between two operations, otherwise 0.
func (f finder) change(last, next int) int {
	if last < 0 || f.Operations[last].Setup == f.Operations[next].Setup {
		return 0
	}
	return 1
}
