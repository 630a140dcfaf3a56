package shop

import (
	"slices"

	"spokeshave/api"
)

// Greedy returns the greedy schedule of a shop.
func Greedy(s api.Shop) ([]int, api.Errno) {
	if e := Check(s); e != api.OK {
		return nil, e
	}
	p := scheduleOf(s, nil)
	// A unit has the number of its Spread, or of its only operation; a Press needs nothing beside its Spread.
	isReady := func(unit int) bool {
		return !p.isPress(unit) && p.arePlaced(s.Operations[unit].Needs...)
	}
	for unit := range inTurn(len(s.Operations), isReady) {
		p.place(unit)
	}
	return p.list(), api.OK
}

// place places the operations of a unit.
func (p schedule) place(unit int) {
	p.starts[unit] = p.earliest(unit)
	g, glued := p.glues[unit]
	if !glued {
		return
	}
	press := p.clampedFrom(p.earliest(g.Press), g)
	p.starts[g.Press] = press
	p.starts[unit] = max(p.starts[unit], press-g.Open)
}

// earliest returns the least start of an operation behind all that it needs and all that is placed on its machine.
func (p schedule) earliest(n int) int {
	at := p.readyAt(n)
	machine := p.Operations[n].Machine
	if machine < 0 {
		return at
	}
	sequence := append(p.sequence(machine), n)
	times := p.freeTimes(machine, sequence)
	return max(at, times[len(times)-1])
}

// clampedFrom returns the least minute, from one on, at which the Press of a glue-up can start with its clamps. It is the first one, or one at which clamps become free.
func (p schedule) clampedFrom(first int, g api.Glue) int {
	minutes := []int{first}
	for _, other := range p.Glues {
		if p.arePlaced(other.Press) && p.endOf(other.Press) > first {
			minutes = append(minutes, p.endOf(other.Press))
		}
	}
	slices.Sort(minutes)
	free := slices.IndexFunc(minutes, func(minute int) bool { return p.hasClamps(minute, g) })
	return minutes[free] // at the last one all clamps are free
}

// hasClamps reports whether there are enough clamps for the Press of a glue-up from a minute until it ends.
func (p schedule) hasClamps(minute int, g api.Glue) bool {
	end := minute + p.Operations[g.Press].Minutes
	if p.clampsAt(minute)+g.Clamps > p.Clamps {
		return false
	}
	return !slices.ContainsFunc(p.Glues, func(other api.Glue) bool {
		start, placed := p.starts[other.Press]
		return placed && minute < start && start < end && p.clampsAt(start)+g.Clamps > p.Clamps
	})
}
