package shop_test

import (
	"slices"
	"strconv"
	"strings"
	"testing"

	"spokeshave/api"
	"spokeshave/shop"
)

// P9.1: each limit, with its ends.
func TestCheckLimits(t *testing.T) {
	for name, x := range map[string]struct {
		spoil func(s *api.Shop)
		want  api.Errno
	}{
		"nothing":                      {func(s *api.Shop) { *s = api.Shop{} }, api.OK},
		"as it is":                     {func(s *api.Shop) {}, api.OK},
		"12 machines":                  {func(s *api.Shop) { s.Machines = append(s.Machines, machines(10)...) }, api.OK},
		"13 machines":                  {func(s *api.Shop) { s.Machines = append(s.Machines, machines(11)...) }, api.ErrLarge},
		"machine without a name":       {func(s *api.Shop) { s.Machines[0].Name = "" }, api.ErrName},
		"name of 12":                   {func(s *api.Shop) { s.Machines[0].Name = "aZ9-aaaaaaaa" }, api.OK},
		"name of letters at the ends":  {func(s *api.Shop) { s.Machines[0].Name = "AzZa09" }, api.OK},
		"name of 13":                   {func(s *api.Shop) { s.Machines[0].Name = "aaaaaaaaaaaaa" }, api.ErrName},
		"name with a digit first":      {func(s *api.Shop) { s.Machines[0].Name = "9a" }, api.ErrName},
		"name with a minus first":      {func(s *api.Shop) { s.Machines[0].Name = "-a" }, api.ErrName},
		"name with a blank":            {func(s *api.Shop) { s.Machines[0].Name = "a b" }, api.ErrName},
		"name with a letter not ASCII": {func(s *api.Shop) { s.Machines[0].Name = "s\u00e4ge" }, api.ErrName},
		"machines of one name":         {func(s *api.Shop) { s.Machines[1].Name = "saw" }, api.ErrExists},
		"Change -1":                    {func(s *api.Shop) { s.Machines[0].Change = -1 }, api.ErrRange},
		"Change 0":                     {func(s *api.Shop) { s.Machines[0].Change = 0 }, api.OK},
		"Change 10000":                 {func(s *api.Shop) { s.Machines[0].Change = 10000 }, api.OK},
		"Change 10001":                 {func(s *api.Shop) { s.Machines[0].Change = 10001 }, api.ErrRange},
		"Sharpen -1":                   {func(s *api.Shop) { s.Machines[1].Sharpen = -1 }, api.ErrRange},
		"Sharpen 10000":                {func(s *api.Shop) { s.Machines[1].Sharpen = 10000 }, api.OK},
		"Sharpen 10001":                {func(s *api.Shop) { s.Machines[1].Sharpen = 10001 }, api.ErrRange},
		"Life 0":                       {func(s *api.Shop) { s.Machines[1].Life = 0 }, api.ErrRange},
		"Life 100000":                  {func(s *api.Shop) { s.Machines[1].Life = 100000 }, api.OK},
		"Life 100001":                  {func(s *api.Shop) { s.Machines[1].Life = 100001 }, api.ErrRange},
		"Life 1 without operations":    {func(s *api.Shop) { s.Machines[1].Life, s.Operations[4].Machine = 1, -1 }, api.OK},
		"Clamps -1":                    {func(s *api.Shop) { s.Clamps = -1 }, api.ErrRange},
		"Clamps 1000":                  {func(s *api.Shop) { s.Clamps = 1000 }, api.OK},
		"Clamps 1001":                  {func(s *api.Shop) { s.Clamps = 1001 }, api.ErrRange},
		"60 operations":                {func(s *api.Shop) { s.Operations = append(s.Operations, operations(55)...) }, api.OK},
		"61 operations":                {func(s *api.Shop) { s.Operations = append(s.Operations, operations(56)...) }, api.ErrLarge},
		"operation without a name":     {func(s *api.Shop) { s.Operations[4].Name = "" }, api.ErrName},
		"operations of one name":       {func(s *api.Shop) { s.Operations[4].Name = "rip" }, api.ErrExists},
		"operation like a machine":     {func(s *api.Shop) { s.Operations[4].Name = "saw" }, api.OK},
		"Machine -2":                   {func(s *api.Shop) { s.Operations[4].Machine = -2 }, api.ErrRange},
		"Machine 2":                    {func(s *api.Shop) { s.Operations[4].Machine = 2 }, api.ErrRange},
		"Setup -1":                     {func(s *api.Shop) { s.Operations[4].Setup = -1 }, api.ErrRange},
		"Setup 100":                    {func(s *api.Shop) { s.Operations[4].Setup = 100 }, api.OK},
		"Setup 101":                    {func(s *api.Shop) { s.Operations[4].Setup = 101 }, api.ErrRange},
		"Minutes 0":                    {func(s *api.Shop) { s.Operations[3].Minutes = 0 }, api.ErrRange},
		"Minutes 1":                    {func(s *api.Shop) { s.Operations[3].Minutes = 1 }, api.OK},
		"Minutes 10000":                {func(s *api.Shop) { s.Operations[3].Minutes = 10000 }, api.OK},
		"Minutes 10001":                {func(s *api.Shop) { s.Operations[3].Minutes = 10001 }, api.ErrRange},
		"as long as Life":              {func(s *api.Shop) { s.Operations[0].Minutes = 60 }, api.OK},
		"longer than Life":             {func(s *api.Shop) { s.Operations[0].Minutes = 61 }, api.ErrLarge},
	} {
		s := example()
		x.spoil(&s)
		if e := shop.Check(s); e != x.want {
			t.Errorf("%s: %d, want %d", name, e, x.want)
		}
	}
}

// machines returns machines of different names.
func machines(count int) []api.Machine {
	var l []api.Machine
	for i := range count {
		l = append(l, machine("m"+strconv.Itoa(i), 0, 1, 0))
	}
	return l
}

// operations returns operations of different names.
func operations(count int) []api.Operation {
	var l []api.Operation
	for n := range count {
		l = append(l, operation("o"+strconv.Itoa(n), -1, 0, 1))
	}
	return l
}

// P9.1: what operations need.
func TestCheckNeeds(t *testing.T) {
	for name, x := range map[string]struct {
		spoil func(s *api.Shop)
		want  api.Errno
	}{
		"a later one":             {func(s *api.Shop) { s.Operations[0].Needs = []int{5} }, api.OK},
		"all others":              {func(s *api.Shop) { s.Operations[5].Needs = []int{0, 1, 2, 3, 4} }, api.OK},
		"number -1":               {func(s *api.Shop) { s.Operations[5].Needs = []int{-1} }, api.ErrMissing},
		"number behind the last":  {func(s *api.Shop) { s.Operations[0].Needs = []int{6} }, api.ErrMissing},
		"descending":              {func(s *api.Shop) { s.Operations[5].Needs = []int{1, 0} }, api.ErrOrder},
		"twice":                   {func(s *api.Shop) { s.Operations[5].Needs = []int{1, 1} }, api.ErrOrder},
		"descending, and missing": {func(s *api.Shop) { s.Operations[5].Needs = []int{1, 0, 6} }, api.ErrMissing},
		"itself":                  {func(s *api.Shop) { s.Operations[5].Needs = []int{5} }, api.ErrCycle},
		"a circle of two":         {func(s *api.Shop) { s.Operations[0].Needs, s.Operations[5].Needs = []int{5}, []int{0} }, api.ErrCycle},
		"a circle of five":        {func(s *api.Shop) { s.Operations[0].Needs = []int{4} }, api.ErrCycle},
		"a circle, then glue-ups": {func(s *api.Shop) { s.Operations[0].Needs, s.Glues[0].Spread = []int{0}, -1 }, api.ErrCycle},
		"a Press that needs all":  {func(s *api.Shop) { s.Operations[3].Needs = []int{0, 1, 2} }, api.ErrForm},
		"a Press that needs none": {func(s *api.Shop) { s.Operations[3].Needs = nil }, api.ErrForm},
		"needed Spread and Press": {func(s *api.Shop) { s.Operations[5].Needs = []int{2, 3} }, api.OK},
		"a Spread that needs":     {func(s *api.Shop) { s.Operations[2].Needs = []int{0, 1, 5} }, api.OK},
	} {
		s := example()
		s.Operations = append(s.Operations, operation("last", -1, 0, 1))
		x.spoil(&s)
		if e := shop.Check(s); e != x.want {
			t.Errorf("%s: %d, want %d", name, e, x.want)
		}
	}
}

// P9.1: glue-ups.
func TestCheckGlues(t *testing.T) {
	pair := func(s *api.Shop) *api.Glue { return &s.Glues[0] }
	for name, x := range map[string]struct {
		spoil func(s *api.Shop)
		want  api.Errno
	}{
		"Spread -1":             {func(s *api.Shop) { pair(s).Spread = -1 }, api.ErrMissing},
		"Press 5":               {func(s *api.Shop) { pair(s).Press = 5 }, api.ErrMissing},
		"the other way":         {func(s *api.Shop) { pair(s).Spread, pair(s).Press = 3, 2 }, api.ErrForm},
		"one of both":           {func(s *api.Shop) { pair(s).Press = 2 }, api.ErrForm},
		"the same twice":        {func(s *api.Shop) { s.Glues = append(s.Glues, s.Glues[0]) }, api.ErrExists},
		"Press is Spread":       {func(s *api.Shop) { s.Glues = append(s.Glues, api.Glue{Spread: 3, Press: 4}) }, api.ErrExists},
		"Spread is Press":       {func(s *api.Shop) { s.Glues = append(s.Glues, api.Glue{Spread: 1, Press: 2}) }, api.ErrExists},
		"Open -1":               {func(s *api.Shop) { pair(s).Open = -1 }, api.ErrRange},
		"Open 9":                {func(s *api.Shop) { pair(s).Open = 9 }, api.ErrLate},
		"Open 10":               {func(s *api.Shop) { pair(s).Open = 10 }, api.OK},
		"Open 100000":           {func(s *api.Shop) { pair(s).Open = 100000 }, api.OK},
		"Open 100001":           {func(s *api.Shop) { pair(s).Open = 100001 }, api.ErrRange},
		"Cure -1":               {func(s *api.Shop) { pair(s).Cure = -1 }, api.ErrRange},
		"Cure 0":                {func(s *api.Shop) { pair(s).Cure = 0 }, api.OK},
		"Cure 100000":           {func(s *api.Shop) { pair(s).Cure = 100000 }, api.OK},
		"Cure 100001":           {func(s *api.Shop) { pair(s).Cure = 100001 }, api.ErrRange},
		"Clamps -1":             {func(s *api.Shop) { pair(s).Clamps = -1 }, api.ErrRange},
		"Clamps 0":              {func(s *api.Shop) { pair(s).Clamps = 0 }, api.OK},
		"Clamps 5":              {func(s *api.Shop) { pair(s).Clamps = 5 }, api.ErrBusy},
		"Clamps 100000":         {func(s *api.Shop) { pair(s).Clamps = 100000 }, api.ErrBusy},
		"Clamps 100001":         {func(s *api.Shop) { pair(s).Clamps = 100001 }, api.ErrRange},
		"no clamps":             {func(s *api.Shop) { s.Clamps, pair(s).Clamps = 0, 0 }, api.OK},
		"one machine":           {func(s *api.Shop) { s.Operations[2].Machine, s.Operations[3].Machine = 1, 1 }, api.ErrClash},
		"machine 0":             {func(s *api.Shop) { s.Operations[2].Machine, s.Operations[3].Machine = 0, 0 }, api.ErrClash},
		"two machines":          {func(s *api.Shop) { s.Operations[2].Machine, s.Operations[3].Machine = 1, 0 }, api.OK},
		"one with, one without": {func(s *api.Shop) { s.Operations[2].Machine = 1 }, api.OK},
	} {
		s := example()
		x.spoil(&s)
		if e := shop.Check(s); e != x.want {
			t.Errorf("%s: %d, want %d", name, e, x.want)
		}
	}
	var pairs [][2]int
	for range 20 {
		pairs = append(pairs, [2]int{1, 1})
	}
	s := presses(1, pairs...)
	if e := shop.Check(s); e != api.OK {
		t.Errorf("20 glue-ups: %d", e)
	}
	s.Glues = append(s.Glues, api.Glue{Spread: -1})
	if e := shop.Check(s); e != api.ErrLarge {
		t.Errorf("21 glue-ups: %d", e)
	}
}

// flawless returns arguments for which all functions return OK, with two machines and two glue-ups.
func flawless() given {
	return given{
		shop: api.Shop{
			Machines: []api.Machine{machine("a", 1, 100, 1), machine("b", 1, 100, 1)},
			Clamps:   4,
			Operations: []api.Operation{
				operation("a", 0, 1, 5), operation("b", 0, 2, 5, 0), operation("c", -1, 0, 5, 1), operation("d", -1, 0, 5, 2), operation("e", -1, 0, 5), operation("f", 1, 0, 5, 4),
			},
			Glues: []api.Glue{{Spread: 2, Press: 3, Open: 10, Cure: 5, Clamps: 2}, {Spread: 4, Press: 5, Open: 10, Cure: 5, Clamps: 2}},
		},
		starts: []int{0, 6, 11, 16, 1, 6}, machine: 1, minute: 20, deadline: 100, operate: 3, by: 1,
	}
}

func oneOf(want api.Errno, spoil ...func(g *given)) []flaw {
	var l []flaw
	for _, f := range spoil {
		l = append(l, flaw{want, f})
	}
	return l
}

func machineFlaws() []flaw {
	l := oneOf(api.ErrLarge, func(g *given) { g.shop.Machines = append(g.shop.Machines, make([]api.Machine, 11)...) })
	for i := range 2 {
		m := func(g *given) *api.Machine { return &g.shop.Machines[i] }
		l = append(l, flaw{api.ErrName, func(g *given) { m(g).Name = "a_" }})
		if i > 0 {
			l = append(l, flaw{api.ErrExists, func(g *given) { m(g).Name = "a" }})
		}
		l = append(l, oneOf(api.ErrRange, func(g *given) { m(g).Change = 10001 }, func(g *given) { m(g).Sharpen = -1 }, func(g *given) { m(g).Life = 0 })...)
	}
	return append(l, flaw{api.ErrRange, func(g *given) { g.shop.Clamps = -1 }})
}

func operationFlaws() []flaw {
	l := oneOf(api.ErrLarge, func(g *given) { g.shop.Operations = append(g.shop.Operations, make([]api.Operation, 55)...) })
	for n := range 6 {
		o := func(g *given) *api.Operation { return &g.shop.Operations[n] }
		l = append(l, flaw{api.ErrName, func(g *given) { o(g).Name = "" }})
		if n > 0 {
			l = append(l, flaw{api.ErrExists, func(g *given) { o(g).Name = "a" }})
		}
		l = append(l, oneOf(api.ErrRange, func(g *given) { o(g).Machine = 2 }, func(g *given) { o(g).Setup = 101 }, func(g *given) { o(g).Minutes = -1 })...)
		l = append(l,
			flaw{api.ErrLarge, func(g *given) { o(g).Machine, o(g).Minutes = 1, 101 }},
			flaw{api.ErrMissing, func(g *given) { o(g).Needs = append(slices.Clip(o(g).Needs), -1) }},
			flaw{api.ErrOrder, func(g *given) { o(g).Needs = []int{1, 1} }},
		)
	}
	return append(l, flaw{api.ErrCycle, func(g *given) { g.shop.Operations[0].Needs = []int{2} }})
}

func glueFlaws() []flaw {
	l := oneOf(api.ErrLarge, func(g *given) { g.shop.Glues = append(g.shop.Glues, make([]api.Glue, 19)...) })
	for i := range 2 {
		glue := func(g *given) *api.Glue { return &g.shop.Glues[i] }
		l = append(l, oneOf(api.ErrMissing, func(g *given) { glue(g).Spread = -1 }, func(g *given) { glue(g).Press = 60 })...)
		if i > 0 {
			l = append(l, oneOf(api.ErrExists, func(g *given) { glue(g).Spread = 3 }, func(g *given) { glue(g).Press = 2 })...)
		}
		l = append(l, flaw{api.ErrForm, func(g *given) { g.shop.Operations[3+2*i].Needs = nil }})
		l = append(l, oneOf(api.ErrRange, func(g *given) { glue(g).Open = -1 }, func(g *given) { glue(g).Cure = 100001 }, func(g *given) { glue(g).Clamps = -1 })...)
		l = append(l,
			flaw{api.ErrLate, func(g *given) { glue(g).Open = 4 }},
			flaw{api.ErrBusy, func(g *given) { glue(g).Clamps = 5 }},
			flaw{api.ErrClash, func(g *given) { g.shop.Operations[2+2*i].Machine, g.shop.Operations[3+2*i].Machine = 1, 1 }},
		)
	}
	return l
}

func startFlaws() []flaw {
	return append(
		oneOf(api.ErrShape, func(g *given) { g.starts = append(g.starts, 9) }),
		oneOf(api.ErrRange, func(g *given) { g.starts[0] = 10000001 }, func(g *given) { g.starts[5] = -1 })...,
	)
}

func noMachine() []flaw {
	return oneOf(api.ErrMissing, func(g *given) { g.machine = -1 }, func(g *given) { g.machine = 2 })
}

// calls returns all functions that look for the error of a shop.
func calls() map[string]call {
	whole := slices.Concat(machineFlaws(), operationFlaws(), glueFlaws())
	begun := slices.Concat(whole, startFlaws())
	return map[string]call{
		"Check":    {func(g given) []any { return results(shop.Check(g.shop)) }, [][]flaw{whole}},
		"Order":    {func(g given) []any { l, e := shop.Order(g.shop); return results(l, e) }, [][]flaw{whole}},
		"Heads":    {func(g given) []any { l, e := shop.Heads(g.shop); return results(l, e) }, [][]flaw{whole}},
		"Tails":    {func(g given) []any { l, e := shop.Tails(g.shop); return results(l, e) }, [][]flaw{whole}},
		"Critical": {func(g given) []any { n, l, e := shop.Critical(g.shop); return results(n, l, e) }, [][]flaw{whole}},
		"Greedy":   {func(g given) []any { l, e := shop.Greedy(g.shop); return results(l, e) }, [][]flaw{whole}},
		"Bound":    {func(g given) []any { n, e := shop.Bound(g.shop); return results(n, e) }, [][]flaw{whole}},
		"Print":    {func(g given) []any { x, e := shop.Print(g.shop); return results(x, e) }, [][]flaw{whole}},
		"FewestSetups": {func(g given) []any { l, n, e := shop.FewestSetups(g.shop, g.machine); return results(l, n, e) }, [][]flaw{
			whole, noMachine(), oneOf(api.ErrLarge, func(g *given) {
				for n := range 8 {
					g.shop.Operations = append(g.shop.Operations, operation("more"+strconv.Itoa(n), 1, 0, 1))
				}
			}),
		}},
		"Latest": {func(g given) []any { l, e := shop.Latest(g.shop, g.deadline); return results(l, e) }, [][]flaw{
			whole,
			oneOf(api.ErrRange, func(g *given) { g.deadline = -1 }, func(g *given) { g.deadline = 10000001 }),
			oneOf(api.ErrLate, func(g *given) { g.deadline = 19 }),
		}},
		"Makespan":    {func(g given) []any { n, e := shop.Makespan(g.shop, g.starts); return results(n, e) }, [][]flaw{begun}},
		"Setups":      {func(g given) []any { n, e := shop.Setups(g.shop, g.starts); return results(n, e) }, [][]flaw{begun}},
		"Sharpenings": {func(g given) []any { n, e := shop.Sharpenings(g.shop, g.starts); return results(n, e) }, [][]flaw{begun}},
		"Sequence":    {func(g given) []any { l, e := shop.Sequence(g.shop, g.starts, g.machine); return results(l, e) }, [][]flaw{begun, noMachine()}},
		"ClampsAt": {func(g given) []any { n, e := shop.ClampsAt(g.shop, g.starts, g.minute); return results(n, e) }, [][]flaw{
			begun, oneOf(api.ErrRange, func(g *given) { g.minute = -1 }, func(g *given) { g.minute = 10000001 }),
		}},
		"MostClamps": {func(g given) []any { n, e := shop.MostClamps(g.shop, g.starts); return results(n, e) }, [][]flaw{begun}},
		"Opened":     {func(g given) []any { l, e := shop.Opened(g.shop, g.starts); return results(l, e) }, [][]flaw{begun}},
		"Accept": {func(g given) []any {
			n, e := shop.Accept(g.shop, g.starts)
			if e == api.OK {
				n++ // -1 is told of a right schedule alone
			}
			return results(n, e)
		}, [][]flaw{begun}},
		"Delay": {func(g given) []any { l, e := shop.Delay(g.shop, g.starts, g.operate, g.by); return results(l, e) }, [][]flaw{
			begun,
			oneOf(api.ErrMissing, func(g *given) { g.operate = -1 }, func(g *given) { g.operate = 6 }),
			oneOf(api.ErrRange, func(g *given) { g.by = -1 }, func(g *given) { g.by = 100001 }),
			oneOf(api.ErrOrder, func(g *given) { g.starts[1] = 1 }),
			oneOf(api.ErrLate, func(g *given) { g.starts[3], g.by = 21, 10 }), // only behind the delay
		}},
	}
}

// R1: if several errors apply, the one that the chapter lists first is returned, and the other results are zero values.
func TestErrors(t *testing.T) {
	for name, c := range calls() {
		checkErrors(t, name, c.of, slices.Concat(c.flaws...))
	}
}

// checkErrors tests a function with each flaw, and with each two of them.
func checkErrors(t *testing.T, name string, call func(g given) []any, flaws []flaw) {
	t.Helper()
	if e := errorOf(t, name, call(flawless())); e != api.OK {
		t.Errorf("%s: %d without a flaw", name, e)
	}
	for i, first := range flaws {
		for j, second := range flaws[i:] {
			g := flawless()
			if j > 0 {
				second.make(&g)
			}
			first.make(&g)
			if e := errorOf(t, name, call(g)); e != first.want {
				t.Errorf("%s, flaws %d and %d: %d, want %d", name, i, i+j, e, first.want)
			}
		}
	}
}

// R2: shops that are very large have an error soon.
func TestCheckVeryLarge(t *testing.T) {
	s := example()
	s.Operations[0].Needs = make([]int, 1000000)
	if e := shop.Check(s); e != api.ErrOrder {
		t.Errorf("many needs: %d", e)
	}
	s.Operations = make([]api.Operation, 1000000)
	if e := shop.Check(s); e != api.ErrLarge {
		t.Errorf("many operations: %d", e)
	}
	s.Machines[0].Name = strings.Repeat("a", 1000000)
	if e := shop.Check(s); e != api.ErrName {
		t.Errorf("a long name: %d", e)
	}
}
