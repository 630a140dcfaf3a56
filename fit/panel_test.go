package fit_test

import (
	"math"
	"math/rand/v2"
	"reflect"
	"testing"

	"spokeshave/api"
	"spokeshave/fit"
)

// examplePanel is the panel of the chapter's examples.
func examplePanel() api.Panel {
	return api.Panel{
		Width:   api.Made{Size: 40000, Rate: 300, Moisture: 80},
		Opening: api.Made{Size: 38500, Moisture: 80, Group: 1},
		Hold:    200, Play: 50,
	}
}

// panelFits returns the fits of that panel in grooves of a depth.
func panelFits(t *testing.T, depth int) []api.Fit {
	t.Helper()
	l, e := fit.Grooves(examplePanel(), depth)
	if e != api.OK || len(l) != 2 {
		t.Fatalf("Grooves %d: %v, %d", depth, l, e)
	}
	return l
}

// P6.6: the fits of a panel.
func TestGrooves(t *testing.T) {
	p := api.Panel{
		Width:   api.Made{Size: 40000, Rate: 300, Moisture: 80, Group: 4, Minus: 1, Plus: 2},
		Opening: api.Made{Size: 38500, Rate: 5, Moisture: 90, Group: 7, Minus: 3, Plus: 4},
		Hold:    200, Play: 50,
	}
	for _, depth := range []int{0, 1, 1015, 300000} {
		want := []api.Fit{
			{Name: "bottom", Outer: []api.Made{p.Opening, {Size: 2 * depth, Group: 7}}, Inner: []api.Made{p.Width}, Least: 50, Most: 600000},
			{Name: "hold", Outer: []api.Made{p.Width}, Inner: []api.Made{p.Opening, {Size: depth, Group: 7}}, Least: 200, Most: 600000},
		}
		if l, e := fit.Grooves(p, depth); !reflect.DeepEqual(l, want) || e != api.OK {
			t.Errorf("depth %d: %v, %d, want %v", depth, l, e, want)
		}
		if e := fit.CheckFits(want); e != api.OK {
			t.Errorf("depth %d: the fits have the error %d", depth, e)
		}
	}
}

// P6.6: examples 2 and 4 of the chapter.
func TestPanelExamples(t *testing.T) {
	l := []api.Season{year()}
	if n, e := fit.LeastGroove(examplePanel(), l); n != 1015 || e != api.OK {
		t.Errorf("LeastGroove: %d, %d", n, e)
	}
	if n, e := fit.GreatestPanel(examplePanel(), 1015, l); n != 40000 || e != api.OK {
		t.Errorf("GreatestPanel: %d, %d", n, e)
	}
	// 39760 - 38500 - depth is at least the hold up to a hold of 245, with the least depth.
	p := examplePanel()
	for hold, want := range map[int]api.Errno{245: api.OK, 246: api.ErrNone} {
		p.Hold = hold
		if _, e := fit.LeastGroove(p, l); e != want {
			t.Errorf("LeastGroove with the hold %d: %d, want %d", hold, e, want)
		}
		if _, e := fit.GreatestPanel(p, 1015, l); e != want {
			t.Errorf("GreatestPanel with the hold %d: %d, want %d", hold, e, want)
		}
	}
}

// P6.6: the ends of the range, and no seasons.
func TestPanelEnds(t *testing.T) {
	l := []api.Season{year()}
	still := func(size int) api.Made { return api.Made{Size: size} }
	for _, x := range []struct {
		p     api.Panel
		l     []api.Season
		want  int
		error api.Errno
	}{
		{examplePanel(), nil, 0, api.OK},
		{api.Panel{}, l, 0, api.OK},
		{api.Panel{Width: still(600000), Opening: still(0)}, l, 300000, api.OK},
		{api.Panel{Width: still(600000), Opening: still(0), Play: 1}, l, 0, api.ErrNone},
		{api.Panel{Width: still(600000), Opening: still(1), Play: 1}, l, 300000, api.OK},
		{api.Panel{Width: still(10), Opening: still(10)}, l, 0, api.OK},
		{api.Panel{Width: still(10), Opening: still(10), Play: 1}, l, 0, api.ErrNone},
		{api.Panel{Width: still(10), Opening: still(9), Play: 1}, l, 1, api.OK},
		{api.Panel{Width: still(9), Opening: still(10)}, l, 0, api.ErrNone},
	} {
		if n, e := fit.LeastGroove(x.p, x.l); n != x.want || e != x.error {
			t.Errorf("LeastGroove %v: %d, %d, want %d, %d", x.p, n, e, x.want, x.error)
		}
	}
	toleranced := api.Made{Size: 50, Minus: 3, Plus: 4}
	for _, x := range []struct {
		p     api.Panel
		depth int
		l     []api.Season
		want  int
		error api.Errno
	}{
		{examplePanel(), 1015, nil, 600000, api.OK},
		{api.Panel{Width: toleranced}, 0, nil, 599996, api.OK},
		{api.Panel{Width: toleranced, Opening: still(40)}, 5, l, 0, api.ErrNone},     // 40 + 10 - 4 = 46, but 46 - 3 - 45 is below 0
		{api.Panel{Width: toleranced, Opening: still(40)}, 7, l, 50, api.OK},         // 40 + 14 - 4 = 50, and 50 - 3 - 47 = 0
		{api.Panel{Width: toleranced, Opening: still(599990)}, 7, l, 0, api.ErrNone}, // 599990 + 14 is above 599996 + 4, but 599996 - 3 - 599997 below 0
		{api.Panel{Opening: still(0)}, 0, l, 0, api.OK},
		{api.Panel{Opening: still(600000)}, 0, l, 600000, api.OK},
		{api.Panel{Opening: still(0), Hold: 1}, 0, l, 0, api.ErrNone},
	} {
		if n, e := fit.GreatestPanel(x.p, x.depth, x.l); n != x.want || e != x.error {
			t.Errorf("GreatestPanel %v, %d: %d, %d, want %d, %d", x.p, x.depth, n, e, x.want, x.error)
		}
	}
}

// P6.6: panels that move far, and a frame that moves with its panel.
func TestPanelMoves(t *testing.T) {
	all := []api.Season{{Name: "all", Low: 0, High: 400}}
	far := api.Made{Size: 600000, Rate: 2000, Moisture: 280}
	together := api.Panel{Width: far, Opening: api.Made{Size: 500000, Rate: 2000, Moisture: 280}}
	apart := together
	apart.Opening.Group = 1
	wide := api.Panel{Width: api.Made{Size: 500000, Rate: 1000}, Opening: api.Made{Size: 400000}}
	wet := []api.Season{{Name: "wet", Low: 280, High: 280}}
	for name, x := range map[string]struct {
		p     api.Panel
		l     []api.Season
		want  int
		error api.Errno
	}{
		"alike":    {api.Panel{Width: far, Opening: far}, all, 0, api.OK},
		"together": {together, all, 0, api.ErrNone}, // 100000 is 44000 at 0: less than half of it
		"dry":      {together, []api.Season{{Name: "dry", Low: 0, High: 0}}, 22000, api.OK},
		"apart":    {apart, []api.Season{{Name: "mild", Low: 275, High: 280}}, 52500, api.OK}, // twice the depth is 600000 - 495000
		"wide":     {wide, wet, 120000, api.OK},                                               // the width is 640000
	} {
		if n, e := fit.LeastGroove(x.p, x.l); n != x.want || e != x.error {
			t.Errorf("%s: %d, %d, want %d, %d", name, n, e, x.want, x.error)
		}
	}
}

// differences returns the least and the greatest width less the opening, in millionths, at the ends of all seasons.
func differences(p api.Panel, l []api.Season) (low, high int) {
	size := func(size int, m api.Made, moisture int) int {
		return size * (1000000 + m.Rate*(min(moisture, 280)-min(m.Moisture, 280)))
	}
	low, high = math.MaxInt, math.MinInt
	for _, s := range l {
		for _, a := range []int{s.Low, s.High} {
			for _, b := range []int{s.Low, s.High} {
				if p.Width.Group != p.Opening.Group || a == b {
					low = min(low, size(p.Width.Size-p.Width.Minus, p.Width, a)-size(p.Opening.Size+p.Opening.Plus, p.Opening, b))
					high = max(high, size(p.Width.Size+p.Width.Plus, p.Width, a)-size(p.Opening.Size-p.Opening.Minus, p.Opening, b))
				}
			}
		}
	}
	return low, high
}

// panelHolds is the definition of a panel that holds.
func panelHolds(p api.Panel, depth int, l []api.Season) bool {
	if len(l) == 0 {
		return true
	}
	low, high := differences(p, l)
	const million, most = 1000000, 600000 * 1000000
	bottom := 2*depth*million-high >= p.Play*million && 2*depth*million-low <= most
	return bottom && low-depth*million >= p.Hold*million && high-depth*million <= most
}

// anyPanel returns a panel and seasons in which it often holds with some depths.
func anyPanel(random *rand.Rand) (api.Panel, []api.Season) {
	scale := []int{50, 5000, 600000}[random.IntN(3)]
	piece := func() api.Made {
		p := api.Made{Size: random.IntN(scale + 1), Rate: random.IntN(300), Moisture: random.IntN(401), Group: random.IntN(2)}
		p.Minus, p.Plus = random.IntN(min(3, p.Size)+1), random.IntN(min(3, 600000-p.Size)+1)
		return p
	}
	p := api.Panel{Width: piece(), Opening: piece(), Hold: random.IntN(scale / 25), Play: random.IntN(scale / 25)}
	if random.IntN(3) > 0 {
		p.Opening.Size = max(p.Opening.Minus, p.Width.Size-random.IntN(p.Width.Size/2+1)-p.Opening.Plus)
	}
	return p, anySeasons(random)
}

// P6.6, P6.10: the least depth and the greatest width by trying all of them.
func TestPanelsByDefinition(t *testing.T) {
	random := steadily(6)
	found := [2]int{}
	for range 150 {
		p, l := anyPanel(random)
		want, error := 0, api.OK
		for !panelHolds(p, want, l) {
			if want++; want > 300000 {
				want, error = 0, api.ErrNone
				break
			}
		}
		n, e := fit.LeastGroove(p, l)
		if n != want || e != error {
			t.Fatalf("LeastGroove %v, %v: %d, %d, want %d, %d", p, l, n, e, want, error)
		}
		depth := n
		if random.IntN(2) == 0 || e != api.OK {
			depth = random.IntN(p.Width.Size/2 + 1)
		} else {
			found[0]++
		}
		changed := p
		changed.Width.Size = 600000 - p.Width.Plus
		error = api.OK
		for !panelHolds(changed, depth, l) {
			if changed.Width.Size--; changed.Width.Size < p.Width.Minus {
				changed.Width.Size, error = 0, api.ErrNone
				break
			}
		}
		n, e = fit.GreatestPanel(p, depth, l)
		if n != changed.Width.Size || e != error {
			t.Fatalf("GreatestPanel %v, %d, %v: %d, %d, want %d, %d", p, depth, l, n, e, changed.Width.Size, error)
		}
		if e == api.OK {
			found[1]++
		}
	}
	if found[0] < 30 || found[1] < 30 {
		t.Errorf("too few that hold to tell: %v", found)
	}
}

// P6.10: with one hundredth less than LeastGroove, or one more than GreatestPanel, one of the fits of Grooves is broken; with them both hold.
func TestPanelsAndFits(t *testing.T) {
	random := steadily(66)
	both := func(p api.Panel, depth int, l []api.Season) bool {
		fits, e := fit.Grooves(p, depth)
		if e != api.OK {
			t.Fatalf("Grooves %v, %d: %d", p, depth, e)
		}
		breaks, e := fit.All(fits, l)
		if e != api.OK {
			t.Fatalf("All %v, %v: %d", fits, l, e)
		}
		return len(breaks) == 0
	}
	for range 500 {
		p, l := anyPanel(random)
		depth, e := fit.LeastGroove(p, l)
		if e != api.OK {
			continue
		}
		if !both(p, depth, l) || depth > 0 && both(p, depth-1, l) {
			t.Fatalf("LeastGroove %v, %v: %d", p, l, depth)
		}
		deeper, _ := fit.Grooves(p, depth+random.IntN(300001-depth))
		if is, b := holds(t, deeper[0], l...); !is {
			t.Fatalf("deeper than %d, %v, %v: %v", depth, p, l, b)
		}
		size, e := fit.GreatestPanel(p, depth, l)
		if e != api.OK || size < p.Width.Size {
			t.Fatalf("GreatestPanel %v, %d, %v: %d, %d", p, depth, l, size, e)
		}
		if p.Width.Size = size; !both(p, depth, l) {
			t.Fatalf("GreatestPanel %v, %d, %v", p, depth, l)
		}
		if p.Width.Size++; p.Width.Size+p.Width.Plus <= 600000 && both(p, depth, l) {
			t.Fatalf("GreatestPanel: %v, %d, %v holds, too", p, depth, l)
		}
	}
}
