package shop

import "spokeshave/api"

// Makespan returns the length of a schedule.
func Makespan(s api.Shop, starts []int) (int, api.Errno) {
	if e := checkSchedule(s, starts); e != api.OK {
		return 0, e
	}
	p := scheduleOf(s, starts)
	length := 0
	for n := range s.Operations {
		length = max(length, p.endOf(n))
	}
	return length, api.OK
}

// ClampsAt returns how many clamps are used at a minute.
func ClampsAt(s api.Shop, starts []int, minute int) (int, api.Errno) {
	if e := firstError(checkSchedule(s, starts), checkRange(0, maxTime, minute)); e != api.OK {
		return 0, e
	}
	return scheduleOf(s, starts).clampsAt(minute), api.OK
}

// MostClamps returns the greatest number of clamps that are used at a minute.
func MostClamps(s api.Shop, starts []int) (int, api.Errno) {
	if e := checkSchedule(s, starts); e != api.OK {
		return 0, e
	}
	p := scheduleOf(s, starts)
	most := 0
	for _, g := range s.Glues { // more of them are used only where a Press starts
		most = max(most, p.clampsAt(p.starts[g.Press]))
	}
	return most, api.OK
}

// Opened returns for each glue-up the time from the start of its Spread to that of its Press.
func Opened(s api.Shop, starts []int) ([]int, api.Errno) {
	if e := checkSchedule(s, starts); e != api.OK {
		return nil, e
	}
	var opened []int
	for _, g := range s.Glues {
		opened = append(opened, starts[g.Press]-starts[g.Spread])
	}
	return opened, api.OK
}
