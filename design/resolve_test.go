package design_test

import (
	"strconv"
	"strings"
	"testing"

	"spokeshave/api"
	"spokeshave/design"
)

// resolvers are the functions that return the error of a resolved design.
func resolvers() map[string]func(d api.Design) api.Errno {
	return map[string]func(d api.Design) api.Errno{
		"Resolve":     design.Resolve,
		"Pieces":      func(d api.Design) api.Errno { _, e := design.Pieces(d); return e },
		"Blank":       func(d api.Design) api.Errno { _, e := design.Blank(d, "a"); return e },
		"Tie":         func(d api.Design) api.Errno { _, _, e := design.Tie(d, 0); return e },
		"Solid":       func(d api.Design) api.Errno { _, e := design.Solid(d, "a"); return e },
		"Solids":      func(d api.Design) api.Errno { _, e := design.Solids(d); return e },
		"Rest":        func(d api.Design) api.Errno { _, e := design.Rest(d, 0); return e },
		"Accept":      design.Accept,
		"CheckFault":  func(d api.Design) api.Errno { return design.CheckFault(d, api.Fault{Kind: -1}) },
		"Faults":      func(d api.Design) api.Errno { _, e := design.Faults(d); return e },
		"CuttingList": func(d api.Design) api.Errno { _, e := design.CuttingList(d); return e },
		"Compile":     func(d api.Design) api.Errno { _, e := design.Compile(d); return e },
		"Update": func(d api.Design) api.Errno {
			_, _, e := design.Update(api.Compiled{Design: api.Design{Name: "c"}}, d)
			return e
		},
	}
}

// resolvedDesign returns a design with elements enough for a fault in each.
func resolvedDesign(t *testing.T) api.Design {
	t.Helper()
	text := "design d\nparam zero = 0\nparam big = 100000000\nparam p = 1\nparam q = 2\n"
	for _, name := range []string{"a", "b", "c", "d", "e", "f", "g", "h", "i", "k"} {
		text += "part " + name + " oak 0 at 0, 0, 0 size 10, 10, 10\n"
	}
	for i := range 12 {
		// Each one has a place of its own.
		text += "tie lap a b turn 0 at " + strconv.Itoa(100*i) + ", 0, 0 size 10, 10, 10 with 5\n"
	}
	for range 8 {
		text += "fill 0, 0, 0 size 10, 10, 10\n"
	}
	return parsed(t, text)
}

// P5.5: the errors of a resolved design, and which one comes first, behind those of Check.
func TestResolve(t *testing.T) {
	d := resolvedDesign(t)
	faults := []fault{
		{"a wrong name of a group", api.ErrName, func(d *api.Design) { d.Groups = []api.Group{{}} }},
		{"a parameter by zero", api.ErrZero, func(d *api.Design) { d.Params[2].Text = "1 / zero" }},
		{"a parameter that is too large", api.ErrRange, func(d *api.Design) { d.Params[3].Text = "big + 1" }},
		{"a place by zero", api.ErrZero, func(d *api.Design) { d.Parts[0].At[0] = "1 / zero" }},
		{"a size out of range", api.ErrRange, func(d *api.Design) { d.Parts[1].Size[2] = "big + 1" }},
		{"no size", api.ErrForm, func(d *api.Design) { d.Parts[2].Size[0] = "0" }},
		{"a negative size", api.ErrForm, func(d *api.Design) { d.Parts[3].Size[2] = "-1" }},
		{"a part below the room", api.ErrRange, func(d *api.Design) { d.Parts[4].At[1] = "-300001" }},
		{"a part above the room", api.ErrRange, func(d *api.Design) { d.Parts[5].At[2] = "299991" }},
		{"a large part", api.ErrRange, func(d *api.Design) { d.Parts[6].Size[0] = "big" }},
		{"a place of a tie by zero", api.ErrZero, func(d *api.Design) { d.Ties[0].At[0] = "zero / zero" }},
		{"a size of a tie out of range", api.ErrRange, func(d *api.Design) { d.Ties[1].Size[1] = "big * 2" }},
		{"a number of a tie by zero", api.ErrZero, func(d *api.Design) { d.Ties[2].Numbers[0] = "5 / zero" }},
		{"a joint without a size", api.ErrRange, func(d *api.Design) { d.Ties[3].Size[0] = "0" }},
		{"a joint without numbers", api.ErrShape, func(d *api.Design) { d.Ties[4].Numbers = nil }},
		{"a wrong joint", api.ErrForm, func(d *api.Design) { d.Ties[5].Numbers[0] = "10" }},
		{"a tie out of the room", api.ErrRange, func(d *api.Design) { d.Ties[6].At[1] = "299991" }},
		{"a tie far out of the room", api.ErrRange, func(d *api.Design) { d.Ties[7].At[1] = "-600001" }},
		{"ties that overlap", api.ErrClash, func(d *api.Design) { d.Ties[8].At[0] = "809"; d.Ties[9].At[0] = "800" }},
		{"a space by zero", api.ErrZero, func(d *api.Design) { d.Spaces[0].At[2] = "1 / zero" }},
		{"a size of a space out of range", api.ErrRange, func(d *api.Design) { d.Spaces[1].Size[2] = "-big - 1" }},
		{"no size of a space", api.ErrForm, func(d *api.Design) { d.Spaces[2].Size[1] = "zero" }},
		{"a space out of the room", api.ErrRange, func(d *api.Design) { d.Spaces[3].At[0] = "-300001" }},
	}
	for name, call := range resolvers() {
		if name == "Resolve" {
			checkPairs(t, d, faults, call)
			continue
		}
		for _, x := range faults {
			if e := call(changed(d, x.change)); e != x.want {
				t.Errorf("%s, %s: %d, want %d", name, x.what, e, x.want)
			}
		}
	}
}

// P5.5: which error of one element comes first.
func TestResolveElement(t *testing.T) {
	d := resolvedDesign(t)
	checkPairs(t, d, []fault{
		{"a place by zero", api.ErrZero, func(d *api.Design) { d.Parts[1].At[0] = "1 / 0" }},
		{"a place out of range", api.ErrRange, func(d *api.Design) { d.Parts[1].At[2] = "big + 1" }},
		{"a size by zero", api.ErrZero, func(d *api.Design) { d.Parts[1].Size[0] = "1 / 0" }},
		{"no size", api.ErrForm, func(d *api.Design) { d.Parts[1].Size[2] = "0" }},
		{"out of the room", api.ErrRange, func(d *api.Design) { d.Parts[1].At[1] = "big" }},
	}, design.Resolve)
	checkPairs(t, d, []fault{
		{"a place by zero", api.ErrZero, func(d *api.Design) { d.Ties[1].At[1] = "1 / 0" }},
		{"a size out of range", api.ErrRange, func(d *api.Design) { d.Ties[1].Size[2] = "big + 1" }},
		{"numbers by zero", api.ErrZero, func(d *api.Design) { d.Ties[1].Numbers = []string{"1", "1 / 0"} }},
		{"a size of a joint", api.ErrRange, func(d *api.Design) { d.Ties[1].Size[0] = "100001" }},
		{"a joint of another shape", api.ErrShape, func(d *api.Design) { d.Ties[1].Kind = "dowels" }},
		{"out of the room", api.ErrRange, func(d *api.Design) { d.Ties[1].At[0] = "big" }},
		{"a clash", api.ErrClash, func(d *api.Design) { d.Ties[2].At[0] = "9" }},
	}, design.Resolve)
	checkPairs(t, d, []fault{
		{"a place out of range", api.ErrRange, func(d *api.Design) { d.Spaces[1].At[0] = "big + 1" }},
		{"a size by zero", api.ErrZero, func(d *api.Design) { d.Spaces[1].Size[1] = "1 / 0" }},
		{"a negative size", api.ErrForm, func(d *api.Design) { d.Spaces[1].Size[2] = "-big" }},
		{"out of the room", api.ErrRange, func(d *api.Design) { d.Spaces[1].At[1] = "-300001" }},
	}, design.Resolve)
	// A joint that is wrong and out of the room, and one that is out of the room and clashes.
	for text, want := range map[string]api.Errno{
		"tie lap a b turn 0 at 299999, 0, 0 size 10, 10, 10 with 11": api.ErrForm,
		"tie lap a b turn 0 at 299999, 0, 0 size 10, 10, 10 with 5":  api.ErrRange,
		"tie lap a b turn 0 at 0, 0, 0 size 10, 10, 10 with 11":      api.ErrForm,
	} {
		text = "design d\npart a oak 0 at 0, 0, 0 size 9, 9, 9\npart b oak 0 at 0, 0, 0 size 9, 9, 9\ntie lap a b turn 0 at 0, 0, 0 size 9, 9, 9 with 5\n" + text
		if e := design.Resolve(parsed(t, text)); e != want {
			t.Errorf("%s: %d, want %d", text, e, want)
		}
	}
}

// P5.5: elements at the limits.
func TestResolveLimits(t *testing.T) {
	base := "design d\nparam p = 100000000\npart a oak 0 at 0, 0, 0 size 1, 1, 1\npart b oak 0 at 0, 0, 0 size 1, 1, 1\npart c oak 0 at 0, 0, 0 size 1, 1, 1\n"
	lap := "tie lap a b turn 0 at 0, 0, 0 size 10, 10, 10 with 5\n"
	for text, want := range map[string]api.Errno{
		"part x oak 0 at -300000, -300000, -300000 size 600000, 600000, 600000": api.OK,
		"part x oak 0 at -300000, -300000, -300000 size 600000, 600000, 600001": api.ErrRange,
		"part x oak 0 at 299999, 0, 0 size 1, 1, 1":                             api.OK,
		"part x oak 0 at 300000, 0, 0 size 1, 1, 1":                             api.ErrRange,
		"clear -300000, -300000, -300000 size 600000, 600000, 600000":           api.OK,
		"clear -300000, -300000, -300000 size 600000, 600001, 600000":           api.ErrRange,
		"fill 1, 1, 1 size p - 100000000, 1, 1":                                 api.ErrForm,
		lap + "tie lap b a turn 0 at 10, 0, 0 size 10, 10, 10 with 5":           api.OK,
		lap + "tie lap c b turn 0 at 9, 0, 0 size 10, 10, 10 with 5":            api.ErrClash,
		lap + "tie lap b c turn 0 at 9, 9, 9 size 10, 10, 10 with 5":            api.ErrClash,
		lap + "tie lap b c turn 0 at 9, 9, -10 size 10, 10, 10 with 5":          api.OK,
		lap + "tie lap b c turn 0 at 9, 9, -9 size 10, 10, 10 with 5":           api.ErrClash,
		// Turn 24 takes (x, y, z) to (x, y, -z).
		lap + "tie lap b c turn 24 at 0, 0, 0 size 10, 10, 10 with 5":                                                                             api.OK,
		lap + "tie lap b c turn 24 at 0, 0, 1 size 10, 10, 10 with 5":                                                                             api.ErrClash,
		lap + "tie lap b c turn 24 at 0, 0, -299990 size 10, 10, 10 with 5":                                                                       api.OK,
		lap + "tie lap b c turn 24 at 0, 0, -299991 size 10, 10, 10 with 5":                                                                       api.ErrRange,
		lap + "tie lap c a turn 0 at 20, 0, 0 size 10, 10, 10 with 5\n" + lap:                                                                     api.ErrClash,
		"tie lap a b turn 0 at 0, 0, 0 size 100000, 100000, 100000 with 5":                                                                        api.OK,
		"tie lap a b turn 0 at 0, 0, 0 size 100000, 100001, 100000 with 5":                                                                        api.ErrRange,
		"tie three a c b turn 0 at 0, 0, 0 size 9, 9, 9 with 1, 2, 3, 4, 5":                                                                       api.OK,
		"tie three a c b turn 0 at 0, 0, 0 size 9, 9, 9 with 1, 2, 3, 4, 5\n" + lap:                                                               api.ErrClash,
		"tie fingers a b turn 0 at 0, 0, 0 size 9, 25, 9 with " + strings.Join(many(24, func(i int) string { return strconv.Itoa(i + 1) }), ", "): api.OK,
	} {
		if e := design.Resolve(parsed(t, base+text)); e != want {
			t.Errorf("%s: %d, want %d", text, e, want)
		}
	}
	// Ties without a common member may have overlapping boxes.
	text := base + "part x oak 0 at 0, 0, 0 size 1, 1, 1\n" + lap + "tie lap c x turn 0 at 0, 0, 0 size 10, 10, 10 with 5\n"
	if e := design.Resolve(parsed(t, text)); e != api.OK {
		t.Errorf("%d", e)
	}
	if e := design.Resolve(parsed(t, text+"tie lap x a turn 0 at 0, 0, 0 size 10, 10, 10 with 5\n")); e != api.ErrClash {
		t.Errorf("%d", e)
	}
	if e := design.Resolve(parsed(t, rackText)); e != api.OK {
		t.Errorf("the rack: %d", e)
	}
}

// P5.5: second example of the chapter.
func TestResolveShelf(t *testing.T) {
	d := parsed(t, shelfText)
	if e := design.Resolve(d); e != api.OK {
		t.Errorf("%d", e)
	}
	if e := design.Resolve(changed(d, func(d *api.Design) { d.Params[1].Text = "3 * w" })); e != api.ErrForm {
		t.Errorf("with t = 3 * w: %d", e)
	}
}
