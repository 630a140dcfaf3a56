package design_test

import (
	"math"
	"strconv"
	"strings"
	"testing"

	"spokeshave/api"
	"spokeshave/design"
)

// fault is a change of a design that makes an error.
type fault struct {
	what   string
	want   api.Errno
	change func(d *api.Design)
}

// checkPairs tests that each fault alone has its error, and that of two faults the earlier one counts.
func checkPairs(t *testing.T, d api.Design, faults []fault, check func(d api.Design) api.Errno) {
	t.Helper()
	if e := check(d); e != api.OK {
		t.Fatalf("without a fault: %d", e)
	}
	for i, x := range faults {
		if e := check(changed(d, x.change)); e != x.want {
			t.Errorf("%s: %d, want %d", x.what, e, x.want)
		}
		for _, y := range faults[i+1:] {
			if e := check(changed(d, y.change, x.change)); e != x.want {
				t.Errorf("%s, and %s: %d, want %d", x.what, y.what, e, x.want)
			}
		}
	}
}

// plainDesign returns a design with elements enough for a fault in each.
func plainDesign() api.Design {
	d := api.Design{Name: "plain"}
	for i := range 12 {
		d.Params = append(d.Params, api.Param{Name: "p" + strconv.Itoa(i), Text: strconv.Itoa(i)})
	}
	d.Params[10].Text = "p11 + 1"
	for i := range 20 {
		d.Parts = append(d.Parts, api.Row{Name: "part" + strconv.Itoa(i), Species: "oak", At: three("p10"), Size: three("p11 + 5")})
	}
	for range 14 {
		tie := api.Tie{Kind: "lap", Parts: []string{"part18", "part19"}, At: three("p10"), Size: three("5"), Numbers: []string{"2", "p11"}}
		d.Ties = append(d.Ties, tie)
	}
	for range 8 {
		d.Spaces = append(d.Spaces, api.Space{At: three("1"), Size: three("p10")})
	}
	for i := range 8 {
		d.Groups = append(d.Groups, api.Group{Name: "g" + strconv.Itoa(i), Parts: []string{"part18", "part19", "part17"}})
	}
	return d
}

// long is a text that no expression may have.
var long = strings.Repeat("1", 201)

// P5.2: the errors of parameters, and which one comes first.
func TestCheckParams(t *testing.T) {
	head := []fault{
		{"no name", api.ErrName, func(d *api.Design) { d.Name = "" }},
		{"too many parameters", api.ErrLarge, func(d *api.Design) {
			d.Params = append(d.Params, many(29, func(i int) api.Param { return api.Param{Name: "q" + strconv.Itoa(i), Text: "1"} })...)
		}},
	}
	params := []fault{
		{"a wrong name", api.ErrName, func(d *api.Design) { d.Params[0].Name = "a-b" }},
		{"a name that is there", api.ErrExists, func(d *api.Design) { d.Params[2].Name = "p1" }},
		{"a long text", api.ErrLarge, func(d *api.Design) { d.Params[3].Text = long }},
		{"no text", api.ErrSyntax, func(d *api.Design) { d.Params[4].Text = "" }},
		{"a text that is not plain", api.ErrSyntax, func(d *api.Design) { d.Params[5].Text = "1+1" }},
		{"a text of brackets", api.ErrSyntax, func(d *api.Design) { d.Params[6].Text = "(1)" }},
		{"a text that names nobody", api.ErrMissing, func(d *api.Design) { d.Params[7].Text = "p10 + nobody" }},
		{"a text that names a part", api.ErrMissing, func(d *api.Design) { d.Params[8].Text = "part18" }},
		{"a text of a wrong name", api.ErrSyntax, func(d *api.Design) { d.Params[9].Text = "a-b" }},
		{"a circle of one", api.ErrCycle, func(d *api.Design) { d.Params[9].Text = "2 * p9" }},
		{"a circle of three", api.ErrCycle, func(d *api.Design) { d.Params[0].Text, d.Params[11].Text = "p10", "min(1, p0)" }},
		{"a wrong name of a part", api.ErrName, func(d *api.Design) { d.Parts[0].Name = "1" }},
	}
	d := plainDesign()
	checkPairs(t, d, append(head, params[:8]...), design.Check)
	checkPairs(t, d, params[8:], design.Check)
	one := []fault{
		{"a wrong name", api.ErrName, func(d *api.Design) { d.Params[1].Name = "min" }},
		{"a name that is there", api.ErrExists, func(d *api.Design) { d.Params[1].Name = "p0" }},
		{"a wrong text", api.ErrSyntax, func(d *api.Design) { d.Params[1].Text = "at" }},
	}
	checkPairs(t, d, one, design.Check)
}

// P5.2: the errors of parts, and which one comes first.
func TestCheckParts(t *testing.T) {
	d := plainDesign()
	checkPairs(t, d, []fault{
		{"a circle", api.ErrCycle, func(d *api.Design) { d.Params[0].Text = "p0" }},
		{"a wrong name", api.ErrName, func(d *api.Design) { d.Parts[0].Name = "size" }},
		{"a wrong species", api.ErrName, func(d *api.Design) { d.Parts[1].Species = "" }},
		{"a species that is a word of the language", api.ErrName, func(d *api.Design) { d.Parts[2].Species = "with" }},
		{"a name of a loose member", api.ErrName, func(d *api.Design) { d.Parts[3].Name = "j0-0" }},
		{"a name that is there", api.ErrExists, func(d *api.Design) { d.Parts[4].Name = "part0" }},
		{"a grain below", api.ErrRange, func(d *api.Design) { d.Parts[6].Grain = -1 }},
		{"a grain above", api.ErrRange, func(d *api.Design) { d.Parts[7].Grain = 3 }},
		{"a wrong place", api.ErrSyntax, func(d *api.Design) { d.Parts[8].At[2] = "1 " }},
		{"a size of nobody", api.ErrMissing, func(d *api.Design) { d.Parts[9].Size[0] = "oak" }},
		{"a long size", api.ErrLarge, func(d *api.Design) { d.Parts[10].Size[2] = long }},
		{"a wrong kind of a joint", api.ErrKind, func(d *api.Design) { d.Ties[0].Kind = "tie" }},
	}, design.Check)
	checkPairs(t, d, []fault{
		{"a wrong name", api.ErrName, func(d *api.Design) { d.Parts[1].Name = "a b" }},
		{"a wrong species", api.ErrName, func(d *api.Design) { d.Parts[1].Species = "=" }},
		{"a name that is there", api.ErrExists, func(d *api.Design) { d.Parts[1].Name = "part0" }},
		{"a wrong grain", api.ErrRange, func(d *api.Design) { d.Parts[1].Grain = math.MaxInt }},
		{"a long text", api.ErrLarge, func(d *api.Design) { d.Parts[1].At[0] = long }},
		{"a wrong text", api.ErrSyntax, func(d *api.Design) { d.Parts[1].At[1] = "1 + (2 * 3)" }},
		{"a text of nobody", api.ErrMissing, func(d *api.Design) { d.Parts[1].At[2] = "x" }},
		{"a wrong size", api.ErrSyntax, func(d *api.Design) { d.Parts[1].Size[0] = "- 1" }},
		{"a size of nobody", api.ErrMissing, func(d *api.Design) { d.Parts[1].Size[1] = "x" }},
		{"a long size", api.ErrLarge, func(d *api.Design) { d.Parts[1].Size[2] = long }},
	}, design.Check)
}

// P5.2: the errors of ties, and which one comes first.
func TestCheckTies(t *testing.T) {
	d := plainDesign()
	numbers := func(count int) []string { return many(count, strconv.Itoa) }
	checkPairs(t, d, []fault{
		{"a wrong part", api.ErrRange, func(d *api.Design) { d.Parts[0].Grain = 4 }},
		{"a wrong kind", api.ErrKind, func(d *api.Design) { d.Ties[0].Kind = "Lap" }},
		{"one member", api.ErrShape, func(d *api.Design) { d.Ties[1].Parts = d.Ties[1].Parts[:1] }},
		{"three members of two", api.ErrShape, func(d *api.Design) { d.Ties[2].Parts = append(d.Ties[2].Parts, "part0") }},
		{"two members of three", api.ErrShape, func(d *api.Design) { d.Ties[3].Kind = "three" }},
		{"a member that is nobody", api.ErrMissing, func(d *api.Design) { d.Ties[4].Parts[1] = "p0" }},
		{"a member twice", api.ErrExists, func(d *api.Design) { d.Ties[5].Parts[1] = "part18" }},
		{"a turn below", api.ErrRange, func(d *api.Design) { d.Ties[6].Turn = -1 }},
		{"a turn above", api.ErrRange, func(d *api.Design) { d.Ties[7].Turn = 48 }},
		{"too many numbers", api.ErrLarge, func(d *api.Design) { d.Ties[8].Numbers = numbers(25) }},
		{"a wrong place", api.ErrSyntax, func(d *api.Design) { d.Ties[9].At[0] = "1+1" }},
		{"a size of nobody", api.ErrMissing, func(d *api.Design) { d.Ties[10].Size[2] = "x" }},
		{"a wrong number", api.ErrSyntax, func(d *api.Design) { d.Ties[11].Numbers[1] = "" }},
		{"a wrong kind of a space", api.ErrKind, func(d *api.Design) { d.Spaces[0].Kind = 2 }},
	}, design.Check)
	checkPairs(t, d, []fault{
		{"a wrong kind", api.ErrKind, func(d *api.Design) { d.Ties[1].Kind = "" }},
		{"no members", api.ErrShape, func(d *api.Design) { d.Ties[1].Parts = nil }},
		{"members that are nobody", api.ErrMissing, func(d *api.Design) { d.Ties[1].Parts = []string{"x", "x"} }},
		{"a wrong turn", api.ErrRange, func(d *api.Design) { d.Ties[1].Turn = math.MinInt }},
		{"too many numbers", api.ErrLarge, func(d *api.Design) { d.Ties[1].Numbers = append(numbers(23), "1+1", "x") }},
		{"a wrong place", api.ErrSyntax, func(d *api.Design) { d.Ties[1].At[2] = "1+1" }},
		{"a size of nobody", api.ErrMissing, func(d *api.Design) { d.Ties[1].Size[0] = "x" }},
		{"a long number", api.ErrLarge, func(d *api.Design) { d.Ties[1].Numbers = []string{"1", long} }},
	}, design.Check)
	checkPairs(t, d, []fault{
		{"a member twice, then nobody", api.ErrExists, func(d *api.Design) { d.Ties[1].Kind, d.Ties[1].Parts = "three", []string{"part1", "part1", "x"} }},
		{"a wrong turn", api.ErrRange, func(d *api.Design) { d.Ties[1].Turn = 48 }},
	}, design.Check)
	right := changed(d, func(d *api.Design) { d.Ties[0].Turn, d.Ties[1].Turn, d.Ties[2].Numbers = 0, 47, numbers(24) })
	if e := design.Check(right); e != api.OK {
		t.Errorf("the limits of ties: %d", e)
	}
}

// P5.2: the errors of spaces and groups, and which one comes first.
func TestCheckSpacesAndGroups(t *testing.T) {
	d := plainDesign()
	rows := func(count int) []string {
		return many(count, func(i int) string { return "part" + strconv.Itoa(i%20) })
	}
	checkPairs(t, d, []fault{
		{"a wrong tie", api.ErrShape, func(d *api.Design) { d.Ties[13].Parts = nil }},
		{"a kind below", api.ErrKind, func(d *api.Design) { d.Spaces[0].Kind = -1 }},
		{"a kind above", api.ErrKind, func(d *api.Design) { d.Spaces[1].Kind = 2 }},
		{"a long place", api.ErrLarge, func(d *api.Design) { d.Spaces[2].At[1] = long }},
		{"a wrong size", api.ErrSyntax, func(d *api.Design) { d.Spaces[3].Size[2] = "2 *" }},
		{"a wrong name", api.ErrName, func(d *api.Design) { d.Groups[0].Name = "turn" }},
		{"a name that is there", api.ErrExists, func(d *api.Design) { d.Groups[2].Name = d.Groups[1].Name }},
		{"too many parts", api.ErrLarge, func(d *api.Design) { d.Groups[3].Parts = rows(31) }},
		{"a part that is nobody", api.ErrMissing, func(d *api.Design) { d.Groups[4].Parts[2] = "g0" }},
		{"a part twice", api.ErrExists, func(d *api.Design) { d.Groups[5].Parts[2] = "part18" }},
	}, design.Check)
	checkPairs(t, d, []fault{
		{"a wrong kind", api.ErrKind, func(d *api.Design) { d.Spaces[1].Kind = math.MaxInt }},
		{"a wrong place", api.ErrSyntax, func(d *api.Design) { d.Spaces[1].At[2] = "" }},
		{"a size of nobody", api.ErrMissing, func(d *api.Design) { d.Spaces[1].Size[0] = "x" }},
		{"a wrong name", api.ErrName, func(d *api.Design) { d.Groups[1].Name = "abcdefghijklm" }},
		{"a name that is there", api.ErrExists, func(d *api.Design) { d.Groups[1].Name = "g0" }},
		{"too many parts", api.ErrLarge, func(d *api.Design) { d.Groups[1].Parts = append(rows(30), "nobody") }},
		{"a part that is nobody", api.ErrMissing, func(d *api.Design) { d.Groups[1].Parts = []string{"part0", "nobody", "part0"} }},
		{"a group twice its part", api.ErrExists, func(d *api.Design) { d.Groups[2].Parts = []string{"part0", "part0", "nobody"} }},
	}, design.Check)
}

// P5.2: the counts up to which a design may have elements.
func TestCheckCounts(t *testing.T) {
	params := func(count int) []api.Param {
		return many(count, func(i int) api.Param { return api.Param{Name: "p" + strconv.Itoa(i), Text: "1"} })
	}
	parts := func(count int) []api.Row {
		return many(count, func(i int) api.Row {
			return api.Row{Name: "a" + strconv.Itoa(i), Species: "oak", At: three("1"), Size: three("1")}
		})
	}
	ties := func(count int) []api.Tie {
		return many(count, func(int) api.Tie {
			return api.Tie{Kind: "lap", Parts: []string{"a0", "a1"}, At: three("1"), Size: three("1")}
		})
	}
	spaces := func(count int) []api.Space {
		return many(count, func(int) api.Space { return api.Space{At: three("1"), Size: three("1")} })
	}
	groups := func(count int) []api.Group {
		return many(count, func(i int) api.Group {
			return api.Group{Name: "g" + strconv.Itoa(i), Parts: many(30, func(i int) string { return "a" + strconv.Itoa(i) })}
		})
	}
	d := api.Design{Name: "d", Params: params(40), Parts: parts(30), Ties: ties(40), Spaces: spaces(20), Groups: groups(20)}
	checkPairs(t, d, []fault{
		{"parameters", api.ErrLarge, func(d *api.Design) { d.Params = params(41) }},
		{"parts", api.ErrLarge, func(d *api.Design) { d.Parts = parts(31) }},
		{"ties", api.ErrLarge, func(d *api.Design) { d.Ties = ties(41) }},
		{"spaces", api.ErrLarge, func(d *api.Design) { d.Spaces = spaces(21) }},
		{"groups", api.ErrLarge, func(d *api.Design) { d.Groups = groups(21) }},
		{"a wrong parameter", api.ErrName, func(d *api.Design) { d.Params[0].Name = "" }},
	}, design.Check)
	if e := design.Check(api.Design{Name: "empty"}); e != api.OK {
		t.Errorf("a design without anything: %d", e)
	}
}

// P5.2: names of designs, parts, species and groups are words; those of parameters have no hyphens, and are not min or max; parts are not called like loose members.
func TestCheckNames(t *testing.T) {
	for s, is := range map[string]struct{ word, param, part bool }{
		"a":             {true, true, true},
		"Z":             {true, true, true},
		"z9Z":           {true, true, true},
		"a-b":           {true, false, true},
		"a-":            {true, false, true},
		"abcdefghijkl":  {true, true, true},
		"abcdefghijklm": {false, false, false},
		"":              {false, false, false},
		"9a":            {false, false, false},
		"-a":            {false, false, false},
		"a b":           {false, false, false},
		"a,":            {false, false, false},
		"a#":            {false, false, false},
		"\u00e4":        {false, false, false},
		"a\n":           {false, false, false},
		"=":             {false, false, false},
		"at":            {false, false, false},
		"size":          {false, false, false},
		"turn":          {false, false, false},
		"with":          {false, false, false},
		"min":           {true, false, true},
		"max":           {true, false, true},
		"At":            {true, true, true},
		"design":        {true, true, true},
		"j0-0":          {true, false, false},
		"j12-345":       {true, false, false},
		"j01-00":        {true, false, false},
		"j1":            {true, true, true},
		"j1-":           {true, false, true},
		"j-1":           {true, false, true},
		"j1-a":          {true, false, true},
		"j1-2-3":        {true, false, true},
		"j1a-2":         {true, false, true},
		"J1-2":          {true, false, true},
		"aj1-2":         {true, false, true},
		"j":             {true, true, true},
	} {
		for what, x := range map[string]struct {
			is bool
			d  api.Design
		}{
			"design":    {is.word, api.Design{Name: s}},
			"parameter": {is.param, api.Design{Name: "d", Params: []api.Param{{Name: s, Text: "1"}}}},
			"part":      {is.part, api.Design{Name: "d", Parts: []api.Row{{Name: s, Species: "oak", At: three("1"), Size: three("1")}}}},
			"species":   {is.word, api.Design{Name: "d", Parts: []api.Row{{Name: "a", Species: s, At: three("1"), Size: three("1")}}}},
			"group":     {is.word, api.Design{Name: "d", Groups: []api.Group{{Name: s}}}},
		} {
			want := api.ErrName
			if x.is {
				want = api.OK
			}
			if e := design.Check(x.d); e != want {
				t.Errorf("%q as the name of a %s: %d, want %d", s, what, e, want)
			}
		}
	}
}

// P5.2: parameters may use later ones; names of parameters, parts and groups may be the same.
func TestCheckUses(t *testing.T) {
	d := api.Design{
		Name:   "a",
		Params: []api.Param{{Name: "a", Text: "b + c"}, {Name: "b", Text: "c * c"}, {Name: "c", Text: "4"}},
		Parts:  []api.Row{{Name: "a", Species: "a", At: three("a"), Size: three("b")}, {Name: "b", Species: "a", At: three("a"), Size: three("b")}},
		Groups: []api.Group{{Name: "a", Parts: []string{"b", "a"}}},
	}
	if e := design.Check(d); e != api.OK {
		t.Errorf("%d", e)
	}
	for _, text := range []string{"a", "1 / a", "min(2, 3 - a)", "b"} {
		circle := changed(d, func(d *api.Design) { d.Params[2].Text = text })
		if e := design.Check(circle); e != api.ErrCycle {
			t.Errorf("a circle by %q: %d", text, e)
		}
	}
	behind := changed(d, func(d *api.Design) { d.Params = append(d.Params, api.Param{Name: "a", Text: "1"}) })
	if e := design.Check(behind); e != api.ErrExists {
		t.Errorf("a parameter that is there: %d", e)
	}
}
