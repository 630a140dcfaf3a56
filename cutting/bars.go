package cutting

import (
	"cmp"
	"slices"

	"spokeshave/api"
)

// checkCross returns the error of crosscuts.
func checkCross(c api.Cross) api.Errno {
	switch {
	case len(c.Stock) > api.MaxCross || len(c.Lengths) > api.MaxCross:
		return api.ErrLarge
	case !within(1, api.MaxSize, c.Stock...) || !within(1, api.MaxSize, c.Lengths...) || !within(0, maxTrim, c.Kerf):
		return api.ErrRange
	}
	return api.OK
}

// Crosscut returns a right assignment with the least number of bars that are used.
func Crosscut(c api.Cross) ([][]int, api.Errno) {
	if e := checkCross(c); e != api.OK {
		return nil, e
	}
	// What lies on some bars lies on as many of the longest ones, too.
	bars := longestFirst(c.Stock)
	parts, found := sharedOut(c, bars)
	if !found {
		return nil, api.ErrNone
	}
	lists := make([][]int, len(c.Stock))
	for i, part := range parts {
		lists[bars[i]] = numbersIn(part)
	}
	return lists, api.OK
}

// longestFirst returns the numbers of bars, the longest one first.
func longestFirst(stock []int) []int {
	bars := upTo(len(stock))
	slices.SortStableFunc(bars, func(a, b int) int { return cmp.Compare(stock[b], stock[a]) })
	return bars
}

// sharedOut returns a set of lengths for each of the first bars, as few as possible, or false if all of them are not enough. Sets have the bit i for the length i.
func sharedOut(c api.Cross, bars []int) ([]int, bool) {
	sizes := sizesOfSets(withKerf(c.Lengths, c.Kerf))
	all := len(sizes) - 1
	last := make([]int, len(sizes)) // for each set what lies on the last bar, or -1 if the bars do not hold it
	for set := range last {
		last[set] = -1
	}
	last[0] = 0
	table := [][]int{last}
	for last[all] < 0 {
		if len(table) > len(bars) {
			return nil, false
		}
		last = oneBarMore(last, sizes, c.Stock[bars[len(table)-1]]+c.Kerf)
		table = append(table, last)
	}
	parts := make([]int, len(table)-1)
	for n := len(parts); n > 0; n-- {
		parts[n-1] = table[n][all]
		all &^= table[n][all]
	}
	return parts, true
}

// oneBarMore returns what lies on a further bar, for each set.
func oneBarMore(before, sizes []int, room int) []int {
	last := make([]int, len(sizes))
	for set := range last {
		last[set] = partFor(set, before, sizes, room)
	}
	return last
}

// partFor returns a part of a set that lies on a further bar, if the bars before hold the rest, or -1.
func partFor(set int, before, sizes []int, room int) int {
	for part := set; ; part = (part - 1) & set {
		if sizes[part] <= room && before[set&^part] >= 0 {
			return part
		}
		if part == 0 {
			return -1
		}
	}
}

// sizesOfSets returns the sums of all sets of lengths.
func sizesOfSets(lengths []int) []int {
	sizes := []int{0}
	for _, length := range lengths {
		for _, size := range slices.Clone(sizes) {
			sizes = append(sizes, size+length)
		}
	}
	return sizes
}

// withKerf returns lengths with a kerf more. A bar with a kerf more has room for lengths with a kerf behind each.
func withKerf(lengths []int, kerf int) []int {
	var longer []int
	for _, length := range lengths {
		longer = append(longer, length+kerf)
	}
	return longer
}

func numbersIn(set int) []int {
	var numbers []int
	for n := 0; set>>n != 0; n++ {
		if set>>n&1 == 1 {
			numbers = append(numbers, n)
		}
	}
	return numbers
}

// CheckCrosscut returns the number of the bars that a right assignment uses.
func CheckCrosscut(c api.Cross, l [][]int) (int, api.Errno) {
	if e := checkCross(c); e != api.OK {
		return 0, e
	}
	if len(l) != len(c.Stock) {
		return 0, api.ErrShape
	}
	used := 0
	taken := map[int]bool{}
	for bar, list := range l {
		if e := checkList(c, c.Stock[bar], list, taken); e != api.OK {
			return 0, e
		}
		for _, n := range list {
			taken[n] = true
		}
		if len(list) > 0 {
			used++
		}
	}
	if len(taken) < len(c.Lengths) {
		return 0, api.ErrGap
	}
	return used, api.OK
}

// checkList returns the error of the lengths on a bar, if it is known which ones earlier bars have.
func checkList(c api.Cross, bar int, list []int, taken map[int]bool) api.Errno {
	room := bar + c.Kerf
	for i, n := range list {
		switch {
		case !within(0, len(c.Lengths)-1, n):
			return api.ErrMissing
		case i > 0 && n <= list[i-1]:
			return api.ErrOrder
		case taken[n]:
			return api.ErrExists
		}
		room -= c.Lengths[n] + c.Kerf
	}
	if room < 0 {
		return api.ErrLarge
	}
	return api.OK
}

// LeastBars returns how many bars at least are used.
func LeastBars(c api.Cross) (int, api.Errno) {
	if e := checkCross(c); e != api.OK {
		return 0, e
	}
	asked := 0
	for _, length := range withKerf(c.Lengths, c.Kerf) {
		asked += length
	}
	n, found := fewest(withKerf(c.Stock, c.Kerf), asked)
	if !found {
		return 0, api.ErrNone
	}
	return n, api.OK
}
