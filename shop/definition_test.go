package shop_test

import (
	"slices"

	"spokeshave/api"
)

// definition is a schedule in the making, with the definitions of the chapter taken to the letter: minute by minute, pair by pair, sequence by sequence.
type definition struct {
	api.Shop
	starts map[int]int // of the operations that are placed
}

func definitionOf(s api.Shop) definition { return definition{s, map[int]int{}} }

// placed returns a definition in which all operations have starts.
func placed(s api.Shop, starts []int) definition {
	d := definitionOf(s)
	for n, start := range starts {
		d.starts[n] = start
	}
	return d
}

func (d definition) list() []int {
	list := make([]int, len(d.Operations))
	for n, start := range d.starts {
		list[n] = start
	}
	return list
}

func (d definition) cure(n int) int {
	for _, g := range d.Glues {
		if g.Press == n {
			return g.Cure
		}
	}
	return 0
}

// runs reports whether an operation that is placed runs at a minute.
func (d definition) runs(n, minute int) bool {
	start, there := d.starts[n]
	return there && start <= minute && minute <= start+d.Operations[n].Minutes-1
}

func (d definition) clamps(minute int) int {
	used := 0
	for _, g := range d.Glues {
		if d.runs(g.Press, minute) {
			used += g.Clamps
		}
	}
	return used
}

// sequence returns the placed operations of a machine: again and again the one with the least start, of several the one with the least number.
func (d definition) sequence(machine int) []int {
	var sequence []int
	for range d.Operations {
		next := -1
		for n, o := range d.Operations {
			start, there := d.starts[n]
			if o.Machine == machine && there && !slices.Contains(sequence, n) && (next < 0 || start < d.starts[next]) {
				next = n
			}
		}
		if next >= 0 {
			sequence = append(sequence, next)
		}
	}
	return sequence
}

// sharpened reports whether the operation at a place of a sequence is sharpened for: its minutes and those since the last one that is, itself included, are more than Life.
func (d definition) sharpened(machine int, sequence []int, at int) bool {
	sum := d.Operations[sequence[at]].Minutes
	for i := at - 1; i >= 0; i-- {
		sum += d.Operations[sequence[i]].Minutes
		if d.sharpened(machine, sequence, i) {
			break
		}
	}
	return sum > d.Machines[machine].Life
}

func (d definition) changed(sequence []int, at int) bool {
	return at > 0 && d.Operations[sequence[at]].Setup != d.Operations[sequence[at-1]].Setup
}

// broken returns the error of the first rule that an operation breaks with all others that are placed.
func (d definition) broken(n int) api.Errno {
	o := d.Operations[n]
	for _, need := range o.Needs {
		if d.starts[n] < d.starts[need]+d.Operations[need].Minutes+d.cure(need) {
			return api.ErrOrder
		}
	}
	if o.Machine >= 0 {
		sequence := d.sequence(o.Machine)
		at := slices.Index(sequence, n)
		if at > 0 {
			free := d.starts[sequence[at-1]] + d.Operations[sequence[at-1]].Minutes
			if d.changed(sequence, at) {
				free += d.Machines[o.Machine].Change
			}
			if d.sharpened(o.Machine, sequence, at) {
				free += d.Machines[o.Machine].Sharpen
			}
			if d.starts[n] < free {
				return api.ErrBusy
			}
		}
	}
	for _, g := range d.Glues {
		if g.Press == n && d.starts[n]-d.starts[g.Spread] > g.Open {
			return api.ErrLate
		}
	}
	for _, g := range d.Glues {
		if g.Press == n && d.clamps(d.starts[n]) > d.Clamps {
			return api.ErrStock
		}
	}
	return api.OK
}

// firstBroken returns what Accept returns for starts in range.
func (d definition) firstBroken() (int, api.Errno) {
	for n := range d.Operations {
		if e := d.broken(n); e != api.OK {
			return n, e
		}
	}
	return -1, api.OK
}

// isRight reports whether no placed operation breaks a rule, and at no minute there are too few clamps.
func (d definition) isRight() bool {
	last := 0
	for n, start := range d.starts {
		if d.broken(n) != api.OK {
			return false
		}
		last = max(last, start+d.Operations[n].Minutes)
	}
	for minute := range last {
		if d.clamps(minute) > d.Clamps {
			return false
		}
	}
	return true
}

// readyOnes returns the operations that are not placed, while all that they need are.
func (d definition) readyOnes() []int {
	var ready []int
	for n, o := range d.Operations {
		_, there := d.starts[n]
		all := true
		for _, need := range o.Needs {
			_, done := d.starts[need]
			all = all && done
		}
		if !there && all {
			ready = append(ready, n)
		}
	}
	return ready
}

// isBehind reports whether an operation starts later than all others of its machine that are placed.
func (d definition) isBehind(n int) bool {
	for m, start := range d.starts {
		if m != n && d.Operations[n].Machine >= 0 && d.Operations[m].Machine == d.Operations[n].Machine && start >= d.starts[n] {
			return false
		}
	}
	return true
}

// placeFrom places an operation at the least minute from one on that is right and behind all others of its machine, or reports that there is none in a time longer than the schedules of the tests.
func (d definition) placeFrom(n, from int) bool {
	for minute := from; minute < from+200; minute++ {
		d.starts[n] = minute
		if d.isRight() && d.isBehind(n) {
			return true
		}
	}
	delete(d.starts, n)
	return false
}

// placeLater places an operation some minutes later than at the least right minute, if that is right, too.
func (d definition) placeLater(n, by int) bool {
	if !d.placeFrom(n, 0) {
		return false
	}
	return d.placeFrom(n, d.starts[n]+by)
}

// glueOf returns the glue-up of a Spread or a Press.
func (d definition) glueOf(n int) (api.Glue, bool) {
	for _, g := range d.Glues {
		if g.Spread == n || g.Press == n {
			return g, true
		}
	}
	return api.Glue{}, false
}

// greedy makes the greedy schedule.
func (d definition) greedy() []int {
	for len(d.starts) < len(d.Operations) {
		for _, n := range d.readyOnes() {
			g, glued := d.glueOf(n)
			if glued && g.Press == n {
				continue
			}
			d.placeFrom(n, 0)
			if glued {
				d.placeGlued(g)
			}
			break
		}
	}
	return d.list()
}

// placeGlued places a Press behind its Spread, and the Spread anew, if it is too early. Until then the open time does not count.
func (d definition) placeGlued(g api.Glue) {
	open := definition{d.Shop, d.starts}
	open.Glues = slices.Clone(d.Glues)
	for i := range open.Glues {
		open.Glues[i].Open = 100000
	}
	open.placeFrom(g.Press, 0)
	if d.starts[g.Press] > d.starts[g.Spread]+g.Open {
		d.starts[g.Spread] = d.starts[g.Press] - g.Open
	}
}

// headOf returns the head of an operation.
func (d definition) headOf(n int) int {
	head := 0
	for _, need := range d.Operations[n].Needs {
		head = max(head, d.headOf(need)+d.Operations[need].Minutes+d.cure(need))
	}
	return head
}

// tailOf returns the tail of an operation: the greatest end if it starts at 0, and only those wait that need it, directly or not.
func (d definition) tailOf(n int) int {
	end := d.Operations[n].Minutes
	for m, o := range d.Operations {
		if slices.Contains(o.Needs, n) {
			end = max(end, d.Operations[n].Minutes+d.cure(n)+d.tailOf(m))
		}
	}
	return end
}

func (d definition) greatestTail() int {
	most := 0
	for n := range d.Operations {
		most = max(most, d.tailOf(n))
	}
	return most
}

// sequences calls a function with all sequences of some elements, lexicographically if these ascend.
func sequences(of []int, do func(sequence []int)) {
	var extend func(sequence []int)
	extend = func(sequence []int) {
		if len(sequence) == len(of) {
			do(sequence)
			return
		}
		for _, n := range of {
			if !slices.Contains(sequence, n) {
				extend(append(slices.Clone(sequence), n))
			}
		}
	}
	extend(nil)
}

// needsAll reports whether an operation needs another one, directly or not.
func (d definition) needsAll(n, other int) bool {
	for _, need := range d.Operations[n].Needs {
		if need == other || d.needsAll(need, other) {
			return true
		}
	}
	return false
}

// isInOrder reports whether no operation of a list stands ahead of one that it needs, directly or not.
func (d definition) isInOrder(list []int) bool {
	for i, n := range list {
		for _, later := range list[i+1:] {
			if d.needsAll(n, later) {
				return false
			}
		}
	}
	return true
}

func upTo(count int) []int {
	var l []int
	for n := range count {
		l = append(l, n)
	}
	return l
}
