package design_test

import (
	"math"
	"slices"
	"strconv"
	"strings"
	"testing"

	"spokeshave/api"
	"spokeshave/design"
)

// withParams returns a design with parameters "name = expression".
func withParams(lines ...string) api.Design {
	d := api.Design{Name: "d"}
	for _, line := range lines {
		name, text, _ := strings.Cut(line, " = ")
		d.Params = append(d.Params, api.Param{Name: name, Text: text})
	}
	return d
}

// P5.4: values, and the error of the first parameter that has one.
func TestValues(t *testing.T) {
	for what, x := range map[string]struct {
		d    api.Design
		want []int
		e    api.Errno
	}{
		"none":                          {withParams(), nil, api.OK},
		"the shelf":                     {parsed(t, shelfText), []int{80000, 2000}, api.OK},
		"later ones":                    {withParams("a = b * c", "b = c - 7", "c = 5"), []int{-10, -2, 5}, api.OK},
		"one used often":                {withParams("a = b + b * b", "b = max(c, c)", "c = 5 / 2"), []int{6, 2, 2}, api.OK},
		"the limits":                    {withParams("a = 100000000", "b = -a"), []int{100000000, -100000000}, api.OK},
		"too large":                     {withParams("a = 100000001"), nil, api.ErrRange},
		"by zero":                       {withParams("a = 1 / 0"), nil, api.ErrZero},
		"the first one":                 {withParams("a = 1", "b = 1 / 0", "c = 100000001"), nil, api.ErrZero},
		"the first one, otherwise":      {withParams("a = 1", "c = 100000001", "b = 1 / 0"), nil, api.ErrRange},
		"one that is used":              {withParams("a = 100000001 * 0 + b", "b = 1 / 0"), nil, api.ErrRange},
		"one that is used, first":       {withParams("a = b + 100000001 * 0", "b = 1 / 0"), nil, api.ErrZero},
		"one that is used, behind":      {withParams("a = 1 / 0 + b", "b = 100000001"), nil, api.ErrZero},
		"one that is used by a later":   {withParams("a = 3 * b", "b = c + 1 / 0", "c = d", "d = 999999999"), nil, api.ErrRange},
		"a sum that is too large":       {withParams("a = b + b", "b = 50000001"), nil, api.ErrRange},
		"a wrong design":                {withParams("a = 1 / 0", "a = 3"), nil, api.ErrExists},
		"a circle":                      {withParams("a = 1 / 0", "b = c", "c = b"), nil, api.ErrCycle},
		"an error that is not named":    {withParams("a = 0 * b", "b = 0 / c", "c = 0"), nil, api.ErrZero},
		"a part that cannot be made":    {parsed(t, strings.Replace(shelfText, "w / 40", "3 * w", 1)), []int{80000, 240000}, api.OK},
		"min is worth all of its parts": {withParams("a = min(1, b)", "b = 2 / 0"), nil, api.ErrZero},
	} {
		if l, e := design.Values(x.d); e != x.e || !alike(l, x.want) {
			t.Errorf("%s: %v, %d, want %v, %d", what, l, e, x.want, x.e)
		}
	}
}

// P5.4: parameters in any order are worth what their expressions say.
func TestValuesAny(t *testing.T) {
	random := steadily(20)
	for range 300 {
		k := anyDesign(t, random, 0, 0, 0)
		if l, e := design.Values(k.design); e != api.OK || !alike(l, k.values) {
			t.Fatalf("%v: %v, %d, want %v", k.design, l, e, k.values)
		}
	}
	// Each parameter uses the one before twice: the values are found in few steps.
	d := withParams("p0 = 1")
	for i := range 39 {
		before := "p" + strconv.Itoa(i)
		d.Params = slices.Insert(d.Params, 0, api.Param{Name: "p" + strconv.Itoa(i+1), Text: "max(" + before + ", " + before + ")"})
	}
	if l, e := design.Values(d); e != api.OK || len(l) != 40 || l[0] != 1 {
		t.Errorf("%v, %d", l, e)
	}
}

// P5.4: a parameter is set to a number, and nothing else is changed.
func TestSet(t *testing.T) {
	d := parsed(t, shelfText)
	for value, text := range map[int]string{60000: "60000", 0: "0", -5: "-5", 100000000: "100000000", -100000000: "-100000000"} {
		for i, p := range d.Params {
			set, e := design.Set(d, p.Name, value)
			want := changed(d, func(d *api.Design) { d.Params[i].Text = text })
			if e != api.OK || !alike(set, want) {
				t.Errorf("%s = %d: %v, %d", p.Name, value, set, e)
			}
			if l, e := design.Values(set); e != api.OK || l[i] != value {
				t.Errorf("%s = %d: %v, %d", p.Name, value, l, e)
			}
		}
	}
	for what, x := range map[string]struct {
		d     api.Design
		name  string
		value int
		want  api.Errno
	}{
		"a wrong design":       {changed(d, func(d *api.Design) { d.Parts[1].Name = "left" }), "w", 1, api.ErrExists},
		"nobody":               {d, "x", 1, api.ErrMissing},
		"a part":               {d, "left", 1, api.ErrMissing},
		"nobody, out of range": {d, "", math.MaxInt, api.ErrMissing},
		"too large":            {d, "w", 100000001, api.ErrRange},
		"too small":            {d, "w", -100000001, api.ErrRange},
		"the least number":     {d, "t", math.MinInt, api.ErrRange},
		"the greatest number":  {d, "t", math.MaxInt, api.ErrRange},
	} {
		if set, e := design.Set(x.d, x.name, x.value); e != x.want || !alike(set, api.Design{}) {
			t.Errorf("%s: %v, %d", what, set, e)
		}
	}
	// A parameter that has no value may be set.
	if set, e := design.Set(withParams("a = 1 / 0"), "a", 3); e != api.OK || set.Params[0].Text != "3" {
		t.Errorf("%v, %d", set, e)
	}
}

// P5.5: the parts of groups, in the order of the group.
func TestMembers(t *testing.T) {
	d := parsed(t, rackText+"group ba c a b\ngroup a d\n")
	for name, want := range map[string][]string{"ab": {"a", "b"}, "none": {}, "ba": {"c", "a", "b"}, "a": {"d"}} {
		if l, e := design.Members(d, name); e != api.OK || !alike(l, want) {
			t.Errorf("%s: %v, %d", name, l, e)
		}
	}
	for _, name := range []string{"", "b", "u", "AB"} {
		if l, e := design.Members(d, name); e != api.ErrMissing || len(l) > 0 {
			t.Errorf("%q: %v, %d", name, l, e)
		}
	}
	wrong := changed(d, func(d *api.Design) { d.Groups[0].Parts[0] = "x" })
	if l, e := design.Members(wrong, "nobody"); e != api.ErrMissing || len(l) > 0 {
		t.Errorf("%v, %d", l, e)
	}
	wrong = changed(d, func(d *api.Design) { d.Groups[0].Name = "" })
	if l, e := design.Members(wrong, "nobody"); e != api.ErrName || len(l) > 0 {
		t.Errorf("%v, %d", l, e)
	}
}

// P5.5: what a part uses, by its row and its ties, directly or not.
func TestUses(t *testing.T) {
	shelf, rack := parsed(t, shelfText), parsed(t, rackText)
	for what, x := range map[string]struct {
		d    api.Design
		part string
		want []string
	}{
		"left":                 {shelf, "left", []string{"t", "w"}},
		"board":                {shelf, "board", []string{"t", "w"}},
		"by l":                 {rack, "a", []string{"l", "u", "v"}},
		"by the numbers":       {rack, "d", []string{"u"}},
		"by the place of ties": {rack, "c", []string{"l", "u", "v"}},
	} {
		if l, e := design.Uses(x.d, x.part); e != api.OK || !alike(l, x.want) {
			t.Errorf("%s: %v, %d, want %v", what, l, e, x.want)
		}
	}
	for param, want := range map[string][]string{"t": {"left", "right", "board"}, "w": {"left", "right", "board"}} {
		if l, e := design.Dependents(shelf, param); e != api.OK || !alike(l, want) {
			t.Errorf("%s: %v, %d, want %v", param, l, e, want)
		}
	}
	for param, want := range map[string][]string{"u": {"a", "b", "c", "d"}, "v": {"a", "b", "c"}, "l": {"a", "b", "c"}, "spare": nil} {
		if l, e := design.Dependents(rack, param); e != api.OK || !alike(l, want) {
			t.Errorf("%s: %v, %d, want %v", param, l, e, want)
		}
	}
	for _, name := range []string{"", "u", "j0-0", "ab", "x"} {
		if l, e := design.Uses(rack, name); e != api.ErrMissing || len(l) > 0 {
			t.Errorf("uses of %q: %v, %d", name, l, e)
		}
	}
	for _, name := range []string{"", "a", "j0-0", "none", "x"} {
		if l, e := design.Dependents(rack, name); e != api.ErrMissing || len(l) > 0 {
			t.Errorf("dependents of %q: %v, %d", name, l, e)
		}
	}
	wrong := changed(rack, func(d *api.Design) { d.Ties[0].Turn = 48 })
	if l, e := design.Uses(wrong, "x"); e != api.ErrRange || len(l) > 0 {
		t.Errorf("%v, %d", l, e)
	}
	if l, e := design.Dependents(wrong, "x"); e != api.ErrRange || len(l) > 0 {
		t.Errorf("%v, %d", l, e)
	}
	// These look at texts only: the design need not have values.
	loose := changed(rack, func(d *api.Design) { d.Params[1].Text = "u / 0" })
	if l, e := design.Uses(loose, "a"); e != api.OK || len(l) != 3 {
		t.Errorf("%v, %d", l, e)
	}
}

// wordsIn returns the names in a text.
func wordsIn(text string) []string {
	fields := strings.FieldsFunc(text, func(c rune) bool { return strings.ContainsRune(" +-*/(),", c) })
	return slices.DeleteFunc(fields, func(s string) bool { return s[0] <= '9' || s == "min" || s == "max" })
}

// textsOf returns the texts of a part, or of a loose member of a tie.
func textsOf(d api.Design, part string, tie int) []string {
	var texts []string
	for _, r := range d.Parts {
		if r.Name == part {
			texts = append(texts, r.At[0], r.At[1], r.At[2], r.Size[0], r.Size[1], r.Size[2])
		}
	}
	for i, x := range d.Ties {
		if i == tie || slices.Contains(x.Parts, part) {
			texts = append(texts, x.At[0], x.At[1], x.At[2], x.Size[0], x.Size[1], x.Size[2])
			texts = append(texts, x.Numbers...)
		}
	}
	return texts
}

// isUsed is the definition: a text that names a parameter uses it, and what uses one uses what its expression names.
func isUsed(d api.Design, texts []string, param string) bool {
	for _, text := range texts {
		for _, word := range wordsIn(text) {
			if word == param {
				return true
			}
			i := slices.IndexFunc(d.Params, func(p api.Param) bool { return p.Name == word })
			if isUsed(d, []string{d.Params[i].Text}, param) {
				return true
			}
		}
	}
	return false
}

// P5.5: uses and dependents of any designs.
func TestUsesAny(t *testing.T) {
	random := steadily(21)
	for range 100 {
		d := anyDesign(t, random, number(random, 1, 4), number(random, 0, 4), 1).design
		dependents := map[string][]string{}
		for _, r := range d.Parts {
			var want []string
			for _, p := range d.Params {
				if isUsed(d, textsOf(d, r.Name, -1), p.Name) {
					want = append(want, p.Name)
					dependents[p.Name] = append(dependents[p.Name], r.Name)
				}
			}
			slices.Sort(want)
			if l, e := design.Uses(d, r.Name); e != api.OK || !alike(l, want) {
				t.Fatalf("%v: %s uses %v, %d, want %v", d, r.Name, l, e, want)
			}
		}
		for _, p := range d.Params {
			if l, e := design.Dependents(d, p.Name); e != api.OK || !alike(l, dependents[p.Name]) {
				t.Fatalf("%v: dependents of %s: %v, %d, want %v", d, p.Name, l, e, dependents[p.Name])
			}
		}
	}
}
