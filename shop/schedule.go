package shop

import (
	"cmp"
	"slices"

	"spokeshave/api"
)

// schedule is a shop with the starts of those operations that are placed.
type schedule struct {
	api.Shop
	glues  map[int]api.Glue // by the numbers of their operations
	starts map[int]int      // by the numbers of operations
}

// scheduleOf returns a shop in which the operations are placed that have a start in a list.
func scheduleOf(s api.Shop, starts []int) schedule {
	p := schedule{s, map[int]api.Glue{}, map[int]int{}}
	for _, g := range s.Glues {
		p.glues[g.Spread], p.glues[g.Press] = g, g
	}
	for n, start := range starts {
		p.starts[n] = start
	}
	return p
}

// checkSchedule returns the error of a shop, or that of starts.
func checkSchedule(s api.Shop, starts []int) api.Errno {
	if e := Check(s); e != api.OK {
		return e
	}
	if len(starts) != len(s.Operations) {
		return api.ErrShape
	}
	return checkRange(0, maxTime, starts...)
}

// list returns the starts of all operations.
func (p schedule) list() []int {
	list := make([]int, len(p.Operations))
	for n := range list {
		list[n] = p.starts[n]
	}
	return list
}

// arePlaced reports whether all of some operations are placed.
func (p schedule) arePlaced(operations ...int) bool {
	return !slices.ContainsFunc(operations, func(n int) bool {
		_, placed := p.starts[n]
		return !placed
	})
}

func (p schedule) isPress(n int) bool {
	g, glued := p.glues[n]
	return glued && n == g.Press
}

func (p schedule) cureOf(n int) int {
	if !p.isPress(n) {
		return 0
	}
	return p.glues[n].Cure
}

// holding returns how long those that need an operation wait from its start on.
func (p schedule) holding(n int) int {
	return p.Operations[n].Minutes + p.cureOf(n)
}

func (p schedule) endOf(n int) int {
	return p.starts[n] + p.Operations[n].Minutes
}

// readyAt returns when all that an operation needs have ended and their cures are over.
func (p schedule) readyAt(n int) int {
	at := 0
	for _, need := range p.Operations[n].Needs {
		at = max(at, p.starts[need]+p.holding(need))
	}
	return at
}

// sequence returns the placed operations of a machine in the order of their starts, equal ones by their numbers.
func (p schedule) sequence(machine int) []int {
	var sequence []int
	for n, o := range p.Operations {
		if o.Machine == machine && p.arePlaced(n) {
			sequence = append(sequence, n)
		}
	}
	slices.SortStableFunc(sequence, func(a, b int) int { return cmp.Compare(p.starts[a], p.starts[b]) })
	return sequence
}

// clampsAt returns how many clamps are used at a minute.
func (p schedule) clampsAt(minute int) int {
	used := 0
	for _, g := range p.Glues {
		if p.arePlaced(g.Press) && p.starts[g.Press] <= minute && minute < p.endOf(g.Press) {
			used += g.Clamps
		}
	}
	return used
}
