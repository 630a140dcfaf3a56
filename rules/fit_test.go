package rules_test

import (
	"testing"

	"spokeshave/api"
	"spokeshave/fit"
)

// fitGiven is arguments for every function of package fit.
type fitGiven struct {
	Made, Other         api.Made
	Fit                 api.Fit
	Fits                []api.Fit
	Season              api.Season
	Seasons             []api.Season
	Moisture            int
	Moistures           []int
	Break               api.Break
	Inner               int
	Panel               api.Panel
	Depth, Screw, Limit int
	Pieces              []api.Made
	Text                string
}

func TestFit(t *testing.T) {
	all := functions[fitGiven]{
		"CheckMade":    func(g fitGiven) []any { return results(fit.CheckMade(g.Made)) },
		"CheckFit":     func(g fitGiven) []any { return results(fit.CheckFit(g.Fit)) },
		"CheckFits":    func(g fitGiven) []any { return results(fit.CheckFits(g.Fits)) },
		"CheckSeasons": func(g fitGiven) []any { return results(fit.CheckSeasons(g.Seasons)) },
		"Groups":       func(g fitGiven) []any { x, e := fit.Groups(g.Fit); return results(x, e) },
		"Print":        func(g fitGiven) []any { x, e := fit.Print(g.Fits); return results(x, e) },
		"Parse": func(g fitGiven) []any {
			x, line, e := fit.Parse(g.Text)
			if e == api.ErrSyntax {
				line = 0 // the chapter says what stands there
			}
			return results(x, line, e)
		},
	}
	addClearances(all)
	addPanels(all)
	checkRules(t, all, goodFit(t))
}

// addClearances adds the functions that look at sizes, clearances and seasons.
func addClearances(all functions[fitGiven]) {
	all["SizeAt"] = func(g fitGiven) []any { x, e := fit.SizeAt(g.Made, g.Moisture); return results(x, e) }
	all["SizeOver"] = func(g fitGiven) []any { x, e := fit.SizeOver(g.Made, g.Season); return results(x, e) }
	all["Clearance"] = func(g fitGiven) []any { x, e := fit.Clearance(g.Fit, g.Moistures); return results(x, e) }
	all["ClearanceOver"] = func(g fitGiven) []any { x, e := fit.ClearanceOver(g.Fit, g.Season); return results(x, e) }
	all["Holds"] = func(g fitGiven) []any { is, b, e := fit.Holds(g.Fit, g.Seasons); return results(is, b, e) }
	all["All"] = func(g fitGiven) []any { x, e := fit.All(g.Fits, g.Seasons); return results(x, e) }
	all["CheckBreak"] = func(g fitGiven) []any { return results(fit.CheckBreak(g.Fits, g.Seasons, g.Break)) }
	all["Adjust"] = func(g fitGiven) []any { x, e := fit.Adjust(g.Fit, g.Seasons, g.Inner); return results(x, e) }
	all["Worst"] = func(g fitGiven) []any { n, x, e := fit.Worst(g.Fit, g.Seasons); return results(n, x, e) }
}

// addPanels adds the functions of panels, slots and stacks.
func addPanels(all functions[fitGiven]) {
	all["CheckPanel"] = func(g fitGiven) []any { return results(fit.CheckPanel(g.Panel)) }
	all["Grooves"] = func(g fitGiven) []any { x, e := fit.Grooves(g.Panel, g.Depth); return results(x, e) }
	all["LeastGroove"] = func(g fitGiven) []any { x, e := fit.LeastGroove(g.Panel, g.Seasons); return results(x, e) }
	all["GreatestPanel"] = func(g fitGiven) []any {
		x, e := fit.GreatestPanel(g.Panel, g.Depth, g.Seasons)
		return results(x, e)
	}
	all["Slot"] = func(g fitGiven) []any { x, e := fit.Slot(g.Other, g.Screw, g.Seasons); return results(x, e) }
	all["Stack"] = func(g fitGiven) []any { x, e := fit.Stack(g.Pieces); return results(x, e) }
	all["Likely"] = func(g fitGiven) []any { x, e := fit.Likely(g.Pieces, g.Limit); return results(x, e) }
}

func goodFit(t *testing.T) fitGiven {
	t.Helper()
	side := api.Made{Size: 49800, Rate: 300, Moisture: 80, Group: 3, Minus: 10, Plus: 10}
	still := api.Made{Size: 50000, Group: 1}
	drawer := api.Fit{Name: "drawer", Outer: []api.Made{still}, Inner: []api.Made{{Size: 9, Group: 2}, side}, Most: 5000}
	other := api.Fit{Name: "other", Outer: []api.Made{side, side}, Inner: []api.Made{still}, Least: 49000, Most: 49500}
	g := fitGiven{
		Made: side, Other: side, Fit: drawer, Fits: []api.Fit{drawer, other, {Name: "none"}},
		Season:   api.Season{Name: "mild", Low: 70, High: 90},
		Seasons:  []api.Season{{Name: "year", Low: 60, High: 120}, {Name: "dry", Low: 60, High: 80}},
		Moisture: 100, Moistures: []int{60, 70, 120}, Break: api.Break{Season: 0, Side: -1, Moistures: []int{60, 100, 120}}, Inner: 1,
		Panel: api.Panel{
			Width: api.Made{Size: 40000, Rate: 300, Moisture: 80}, Opening: api.Made{Size: 38500, Moisture: 80, Group: 1}, Hold: 200, Play: 50,
		},
		Depth: 1015, Screw: 500, Limit: 30, Pieces: []api.Made{side, still},
	}
	text, e := fit.Print(g.Fits)
	if e != api.OK {
		t.Fatalf("print: %d", e)
	}
	g.Text = text
	return g
}
