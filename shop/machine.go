package shop

import "spokeshave/api"

// pause is what is done on a machine between an operation and the one behind it.
type pause struct{ changed, sharpened bool }

// minutes returns how long a pause of a machine is.
func (x pause) minutes(m api.Machine) int {
	minutes := 0
	if x.changed {
		minutes += m.Change
	}
	if x.sharpened {
		minutes += m.Sharpen
	}
	return minutes
}

// pausesOf returns the pauses of a machine that does operations in a sequence, one ahead of each; that of the first one is empty.
func (p schedule) pausesOf(machine int, sequence []int) []pause {
	pauses := make([]pause, len(sequence))
	worn := 0 // minutes since the last sharpening
	for i, n := range sequence {
		o := p.Operations[n]
		worn += o.Minutes
		if worn > p.Machines[machine].Life {
			pauses[i].sharpened = true
			worn = o.Minutes
		}
		pauses[i].changed = i > 0 && o.Setup != p.Operations[sequence[i-1]].Setup
	}
	return pauses
}

// freeTimes returns when a machine is free for each operation of a sequence, behind the one before.
func (p schedule) freeTimes(machine int, sequence []int) []int {
	times := make([]int, len(sequence))
	for i, x := range p.pausesOf(machine, sequence) {
		if i > 0 {
			times[i] = p.endOf(sequence[i-1]) + x.minutes(p.Machines[machine])
		}
	}
	return times
}

// countPauses returns for how many pauses of all machines the answer to a question is yes.
func (p schedule) countPauses(question func(x pause) bool) int {
	count := 0
	for machine := range p.Machines {
		for _, x := range p.pausesOf(machine, p.sequence(machine)) {
			if question(x) {
				count++
			}
		}
	}
	return count
}

// Setups returns how often two operations that follow each other on a machine have different setups.
func Setups(s api.Shop, starts []int) (int, api.Errno) {
	if e := checkSchedule(s, starts); e != api.OK {
		return 0, e
	}
	return scheduleOf(s, starts).countPauses(func(x pause) bool { return x.changed }), api.OK
}

// Sharpenings returns how many operations are sharpened for.
func Sharpenings(s api.Shop, starts []int) (int, api.Errno) {
	if e := checkSchedule(s, starts); e != api.OK {
		return 0, e
	}
	return scheduleOf(s, starts).countPauses(func(x pause) bool { return x.sharpened }), api.OK
}

// Sequence returns the operations of a machine in the order of their starts.
func Sequence(s api.Shop, starts []int, machine int) ([]int, api.Errno) {
	if e := firstError(checkSchedule(s, starts), checkMachine(s, machine)); e != api.OK {
		return nil, e
	}
	return scheduleOf(s, starts).sequence(machine), api.OK
}

// checkMachine returns ErrMissing if there is no such machine.
func checkMachine(s api.Shop, machine int) api.Errno {
	if !within(0, len(s.Machines)-1, machine) {
		return api.ErrMissing
	}
	return api.OK
}
