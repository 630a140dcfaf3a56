package shop

import "spokeshave/api"

// Bound returns a length that no right schedule falls short of.
func Bound(s api.Shop) (int, api.Errno) {
	if e := Check(s); e != api.OK {
		return 0, e
	}
	heads, tails := headsOf(s), tailsOf(s)
	bound := greatest(tails)
	for machine := range s.Machines {
		bound = max(bound, machineBound(s, machine, heads, tails))
	}
	return bound, api.OK
}

// machineBound returns a length that no right schedule falls short of because of a machine: what is ahead of its operations, their minutes and sharpenings, and what is behind them.
func machineBound(s api.Shop, machine int, heads, tails []int) int {
	operations := operationsOn(s, machine)
	if len(operations) == 0 {
		return 0
	}
	first := operations[0]
	ahead, minutes, behind := heads[first], 0, tails[first]-s.Operations[first].Minutes
	for _, n := range operations {
		ahead = min(ahead, heads[n])
		minutes += s.Operations[n].Minutes
		behind = min(behind, tails[n]-s.Operations[n].Minutes)
	}
	m := s.Machines[machine]
	return ahead + minutes + behind + m.Sharpen*((minutes-1)/m.Life)
}

// operationsOn returns the operations of a machine.
func operationsOn(s api.Shop, machine int) []int {
	var operations []int
	for n, o := range s.Operations {
		if o.Machine == machine {
			operations = append(operations, n)
		}
	}
	return operations
}
