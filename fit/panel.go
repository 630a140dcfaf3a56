package fit

import "spokeshave/api"

const (
	maxKept  = 100000 // what a panel holds, and its play
	maxDepth = 300000 // of a groove
)

// The names of the fits of a panel.
const (
	bottomName = "bottom"
	holdName   = "hold"
)

// CheckPanel returns the error of a panel.
func CheckPanel(p api.Panel) api.Errno {
	for _, made := range [2]api.Made{p.Width, p.Opening} {
		if e := CheckMade(made); e != api.OK {
			return e
		}
	}
	if !within(0, maxKept, p.Hold, p.Play) {
		return api.ErrRange
	}
	return api.OK
}

// Grooves returns the two fits of a panel in grooves of a depth.
func Grooves(p api.Panel, depth int) ([]api.Fit, api.Errno) {
	if e := checkGrooves(p, depth); e != api.OK {
		return nil, e
	}
	return groovesOf(p, depth), api.OK
}

// LeastGroove returns the least depth of the grooves with which a panel holds.
func LeastGroove(p api.Panel, l []api.Season) (int, api.Errno) {
	if e := CheckPanel(p); e != api.OK {
		return 0, e
	}
	if e := CheckSeasons(l); e != api.OK {
		return 0, e
	}
	depths, e := holding(api.Interval{Hi: maxDepth}, l, func(depth int) []api.Fit { return groovesOf(p, depth) })
	return depths.Lo, e
}

// GreatestPanel returns the greatest size of the width with which a panel holds in grooves of a depth.
func GreatestPanel(p api.Panel, depth int, l []api.Season) (int, api.Errno) {
	if e := checkGrooves(p, depth); e != api.OK {
		return 0, e
	}
	if e := CheckSeasons(l); e != api.OK {
		return 0, e
	}
	widths, e := holding(sizesOf(p.Width), l, func(size int) []api.Fit {
		changed := p
		changed.Width.Size = size
		return groovesOf(changed, depth)
	})
	return widths.Hi, e
}

// checkGrooves returns the error of a panel, or that of the depth of its grooves.
func checkGrooves(p api.Panel, depth int) api.Errno {
	if e := CheckPanel(p); e != api.OK {
		return e
	}
	if !within(0, maxDepth, depth) {
		return api.ErrRange
	}
	return api.OK
}

func groovesOf(p api.Panel, depth int) []api.Fit {
	groove, both := api.Made{Size: depth, Group: p.Opening.Group}, api.Made{Size: 2 * depth, Group: p.Opening.Group}
	return []api.Fit{
		{Name: bottomName, Outer: []api.Made{p.Opening, both}, Inner: []api.Made{p.Width}, Least: p.Play, Most: api.MaxSize},
		{Name: holdName, Outer: []api.Made{p.Width}, Inner: []api.Made{p.Opening, groove}, Least: p.Hold, Most: api.MaxSize},
	}
}
