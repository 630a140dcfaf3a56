package shop

import (
	"slices"

	"spokeshave/api"
)

// Accept returns -1 for a right schedule, otherwise the first operation that breaks a rule, and the error of this rule.
func Accept(s api.Shop, starts []int) (int, api.Errno) {
	if e := checkSchedule(s, starts); e != api.OK {
		return 0, e
	}
	p := scheduleOf(s, starts)
	free := p.allFreeTimes()
	for n := range s.Operations {
		if e := p.broken(n, free[n]); e != api.OK {
			return n, e
		}
	}
	return -1, api.OK
}

// allFreeTimes returns when its machine is free for each operation that has one.
func (p schedule) allFreeTimes() map[int]int {
	free := map[int]int{}
	for machine := range p.Machines {
		sequence := p.sequence(machine)
		for i, time := range p.freeTimes(machine, sequence) {
			free[sequence[i]] = time
		}
	}
	return free
}

// broken returns the error of the first rule that an operation breaks, if its machine is free at a time.
func (p schedule) broken(n, free int) api.Errno {
	start := p.starts[n]
	switch {
	case start < p.readyAt(n):
		return api.ErrOrder
	case start < free:
		return api.ErrBusy
	case !p.isPress(n):
		return api.OK
	case start > p.starts[p.glues[n].Spread]+p.glues[n].Open:
		return api.ErrLate
	case p.clampsAt(start) > p.Clamps:
		return api.ErrStock
	}
	return api.OK
}

// Delay returns the schedule in which an operation, and those that start with it or later, start some minutes later.
func Delay(s api.Shop, starts []int, operation, by int) ([]int, api.Errno) {
	if e := checkSchedule(s, starts); e != api.OK {
		return nil, e
	}
	if !areOperations(s, operation) {
		return nil, api.ErrMissing
	}
	if e := firstError(checkRange(0, api.MaxMinutes, by), refused(s, starts)); e != api.OK {
		return nil, e
	}
	later := slices.Clone(starts)
	for n, start := range starts {
		if start >= starts[operation] {
			later[n] += by
		}
	}
	if e := refused(s, later); e != api.OK {
		return nil, e
	}
	return later, api.OK
}

// refused returns the error of Accept.
func refused(s api.Shop, starts []int) api.Errno {
	_, e := Accept(s, starts)
	return e
}
