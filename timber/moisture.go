package timber

import "spokeshave/api"

const (
	maxKnots    = 50
	maxHumidity = 1000
	maxDryRate  = 100
	maxDays     = 10000
)

// Equilibrium returns the value of a table at a humidity.
func Equilibrium(t []api.Knot, humidity int) (int, api.Errno) {
	if e := checkTable(t); e != api.OK {
		return 0, e
	}
	if !within(0, maxHumidity, humidity) {
		return 0, api.ErrRange
	}
	last := t[0]
	for _, k := range t {
		if humidity <= k.At {
			return between(last, k, humidity), api.OK
		}
		last = k
	}
	return last.Value, api.OK
}

// Dry returns the moisture after some days of drying.
func Dry(moisture, target, rate, days int) (int, api.Errno) {
	if e := checkDrying(moisture, target, rate); e != api.OK {
		return 0, e
	}
	if !within(0, maxDays, days) {
		return 0, api.ErrRange
	}
	_, moisture = dryUntil(moisture, target, rate, func(day, _ int) bool { return day == days })
	return moisture, api.OK
}

// DaysTo returns after how many days of drying the moisture is near the target.
func DaysTo(moisture, target, rate, near int) (int, api.Errno) {
	if e := checkDrying(moisture, target, rate); e != api.OK {
		return 0, e
	}
	if !within(0, api.MaxMoisture, near) {
		return 0, api.ErrRange
	}
	days, _ := dryUntil(moisture, target, rate, func(_, now int) bool { return within(target-near, target+near, now) })
	return days, api.OK
}

// checkTable returns the error of a table.
func checkTable(t []api.Knot) api.Errno {
	switch {
	case len(t) == 0:
		return api.ErrNone
	case len(t) > maxKnots:
		return api.ErrLarge
	}
	last := -1
	for _, k := range t {
		switch {
		case !within(0, maxHumidity, k.At), !within(0, api.MaxMoisture, k.Value):
			return api.ErrRange
		case k.At <= last:
			return api.ErrOrder
		}
		last = k.At
	}
	return api.OK
}

// between returns the value between two knots at a humidity of at most the second one's; if that is the first knot of a table, both are the same.
func between(a, b api.Knot, humidity int) int {
	if humidity <= a.At {
		return a.Value
	}
	// What is divided is not below 0 for a falling table either, so that the quotient is rounded down.
	width := b.At - a.At
	return (a.Value*(b.At-humidity) + b.Value*(humidity-a.At)) / width
}

// checkDrying returns the error of what Dry and DaysTo have in common.
func checkDrying(moisture, target, rate int) api.Errno {
	if !within(0, api.MaxMoisture, moisture, target) || !within(1, maxDryRate, rate) {
		return api.ErrRange
	}
	return api.OK
}

// dryUntil dries day by day until it is done, and returns the days and the moisture then.
func dryUntil(moisture, target, rate int, done func(day, moisture int) bool) (int, int) {
	day := 0
	for !done(day, moisture) {
		moisture += change(target-moisture, rate)
		day++
	}
	return day, moisture
}

// change returns by how much the moisture changes on a day.
func change(difference, rate int) int {
	switch {
	case difference > 0:
		return max(1, difference/rate)
	case difference < 0:
		return min(-1, difference/rate)
	}
	return 0
}
