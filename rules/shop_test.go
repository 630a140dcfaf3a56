package rules_test

import (
	"testing"

	"spokeshave/api"
	"spokeshave/shop"
)

// shopGiven is arguments for every function of package shop.
type shopGiven struct {
	Shop            api.Shop
	Starts          []int
	Machine, Minute int
	Operation, By   int
	Deadline        int
	Text            string
}

func TestShop(t *testing.T) {
	all := functions[shopGiven]{
		"Check":        func(g shopGiven) []any { return results(shop.Check(g.Shop)) },
		"Order":        func(g shopGiven) []any { l, e := shop.Order(g.Shop); return results(l, e) },
		"Heads":        func(g shopGiven) []any { l, e := shop.Heads(g.Shop); return results(l, e) },
		"Tails":        func(g shopGiven) []any { l, e := shop.Tails(g.Shop); return results(l, e) },
		"Critical":     func(g shopGiven) []any { n, l, e := shop.Critical(g.Shop); return results(n, l, e) },
		"Greedy":       func(g shopGiven) []any { l, e := shop.Greedy(g.Shop); return results(l, e) },
		"Bound":        func(g shopGiven) []any { n, e := shop.Bound(g.Shop); return results(n, e) },
		"FewestSetups": func(g shopGiven) []any { l, n, e := shop.FewestSetups(g.Shop, g.Machine); return results(l, n, e) },
		"Latest":       func(g shopGiven) []any { l, e := shop.Latest(g.Shop, g.Deadline); return results(l, e) },
		"Print":        func(g shopGiven) []any { s, e := shop.Print(g.Shop); return results(s, e) },
		"Parse": func(g shopGiven) []any {
			s, line, e := shop.Parse(g.Text)
			if e == api.ErrSyntax {
				line = 0 // the chapter says what stands there
			}
			return results(s, line, e)
		},
	}
	addSchedules(all)
	checkRules(t, all, goodShop(t))
}

// addSchedules adds the functions with starts.
func addSchedules(all functions[shopGiven]) {
	all["Accept"] = func(g shopGiven) []any {
		n, e := shop.Accept(g.Shop, g.Starts)
		switch e {
		case api.ErrOrder, api.ErrBusy, api.ErrLate, api.ErrStock:
			if shop.Check(g.Shop) == api.OK {
				n = 0 // the chapter says what stands there
			}
		}
		return results(n, e)
	}
	all["Makespan"] = func(g shopGiven) []any { n, e := shop.Makespan(g.Shop, g.Starts); return results(n, e) }
	all["Setups"] = func(g shopGiven) []any { n, e := shop.Setups(g.Shop, g.Starts); return results(n, e) }
	all["Sharpenings"] = func(g shopGiven) []any { n, e := shop.Sharpenings(g.Shop, g.Starts); return results(n, e) }
	all["Sequence"] = func(g shopGiven) []any {
		l, e := shop.Sequence(g.Shop, g.Starts, g.Machine)
		return results(l, e)
	}
	all["ClampsAt"] = func(g shopGiven) []any {
		n, e := shop.ClampsAt(g.Shop, g.Starts, g.Minute)
		return results(n, e)
	}
	all["MostClamps"] = func(g shopGiven) []any { n, e := shop.MostClamps(g.Shop, g.Starts); return results(n, e) }
	all["Opened"] = func(g shopGiven) []any { l, e := shop.Opened(g.Shop, g.Starts); return results(l, e) }
	all["Delay"] = func(g shopGiven) []any {
		l, e := shop.Delay(g.Shop, g.Starts, g.Operation, g.By)
		return results(l, e)
	}
}

func goodShop(t *testing.T) shopGiven {
	t.Helper()
	s := api.Shop{
		Machines: []api.Machine{{Name: "saw", Change: 10, Life: 60, Sharpen: 15}, {Name: "press", Change: 5, Life: 1000}},
		Clamps:   4,
		Operations: []api.Operation{
			{Name: "rip", Setup: 1, Minutes: 40}, {Name: "cross", Setup: 2, Minutes: 30, Needs: []int{0}},
			{Name: "spread", Machine: -1, Minutes: 10, Needs: []int{0, 1}}, {Name: "glue", Machine: 1, Minutes: 60, Needs: []int{2}},
			{Name: "coat", Machine: -1, Minutes: 5}, {Name: "lay", Machine: 1, Setup: 3, Minutes: 20, Needs: []int{4}}, {Name: "end", Setup: 1, Minutes: 9, Needs: []int{1, 3, 5}},
		},
		Glues: []api.Glue{{Spread: 2, Press: 3, Open: 20, Cure: 30, Clamps: 4}, {Spread: 4, Press: 5, Open: 5, Cure: 1, Clamps: 1}},
	}
	starts, e := shop.Greedy(s)
	if e != api.OK {
		t.Fatalf("Greedy: %d", e)
	}
	text, e := shop.Print(s)
	if e != api.OK {
		t.Fatalf("Print: %d", e)
	}
	return shopGiven{Shop: s, Starts: starts, Machine: 1, Minute: 120, Operation: 6, By: 7, Deadline: 500, Text: text}
}
