package joint_test

import (
	"strings"
	"testing"

	"spokeshave/api"
	"spokeshave/joint"
)

// P3.9: the texts of joints.
func TestPrint(t *testing.T) {
	texts := []string{
		"lap 4000 4000 2000 1000",
		"bridle 4000 4000 2000 700 1300",
		"tenon 60 40 30 10 30 10 20",
		"stopped 60 40 30 40 5 10 30 10 20",
		"tongue 60 40 30 20 5 10 20",
		"dovetail 1200 6000 2000 6 2000 2000",
		"scarf 12000 3000 2000 0 1 6",
		"fingers 30 40 30 10 20 30",
		"dowels 60 40 30 30 4 6 10 12 2 10 15 30 14",
		"spline 40 40 30 40 5 6 10 20",
		"three 40 40 30 12 15 25 14 26",
	}
	for kind, j := range plain() {
		if s, e := joint.Print(j); s != texts[kind] || e != api.OK {
			t.Errorf("%v: %q, %d", j, s, e)
		}
		if to, e := joint.Parse(texts[kind]); e != api.OK || !alike(to, j) {
			t.Errorf("%q: %v, %d", texts[kind], to, e)
		}
	}
	back := made(scarf, 100000, 1, 8, 100000, 8, -8)
	if s, e := joint.Print(back); s != "scarf 100000 1 8 100000 8 -8" || e != api.OK {
		t.Errorf("%q, %d", s, e)
	}
	if s, e := joint.Print(made(lap, 1, 1, 2, 2)); s != "" || e != api.ErrForm {
		t.Errorf("a wrong joint: %q, %d", s, e)
	}
}

// P3.9: texts that are none of a joint, or of a wrong one.
func TestParseErrors(t *testing.T) {
	for text, want := range map[string]api.Errno{
		"":                              api.ErrSyntax,
		" ":                             api.ErrSyntax,
		"lap":                           api.ErrSyntax,
		"lap ":                          api.ErrSyntax,
		"lap 4":                         api.ErrSyntax,
		"lap 4 4":                       api.ErrSyntax,
		"lap 4 4 2":                     api.ErrShape,
		"lap 4 4 2 ":                    api.ErrSyntax,
		"lap 4 4 2 1":                   api.OK,
		"lap 4 4 2 1 ":                  api.ErrSyntax,
		" lap 4 4 2 1":                  api.ErrSyntax,
		"lap  4 4 2 1":                  api.ErrSyntax,
		"lap 4 4  2 1":                  api.ErrSyntax,
		"lap\t4 4 2 1":                  api.ErrSyntax,
		"lap 4 4 2 1\n":                 api.ErrSyntax,
		"lap 4 4 2 1 1":                 api.ErrShape,
		"Lap 4 4 2 1":                   api.ErrSyntax,
		"laps 4 4 2 1":                  api.ErrSyntax,
		"0 4 4 2 1":                     api.ErrSyntax,
		"4 4 2 1":                       api.ErrSyntax,
		"lap 4 4 2 x":                   api.ErrSyntax,
		"lap 4 4 2 1x":                  api.ErrSyntax,
		"lap 4 4 2 0x1":                 api.ErrSyntax,
		"lap 4 4 2 1.0":                 api.ErrSyntax,
		"lap 4 4 2 1_0":                 api.ErrSyntax,
		"lap 4 4 2 \u0661":              api.ErrSyntax,
		"lap 4 4 2 \xff":                api.ErrSyntax,
		"lap 4 4 2 +1":                  api.ErrSyntax,
		"lap 4 4 2 01":                  api.ErrSyntax,
		"lap 4 4 2 -":                   api.ErrSyntax,
		"lap 4 4 2 -0":                  api.ErrSyntax,
		"lap 4 4 2 -01":                 api.ErrSyntax,
		"lap 4 4 2 --1":                 api.ErrSyntax,
		"lap 4 4 2 00":                  api.ErrSyntax,
		"lap 4 4 2 0":                   api.ErrForm,
		"lap 4 4 2 -1":                  api.ErrForm,
		"lap 4 4 2 9999999":             api.ErrRange,
		"lap 4 4 2 -9999999":            api.ErrRange,
		"lap 4 4 2 10000000":            api.ErrSyntax,
		"lap 4 4 2 -10000000":           api.ErrSyntax,
		"lap 4 4 2 9223372036854775807": api.ErrSyntax,
		"lap 4 4 2 9223372036854775808": api.ErrSyntax,
		"lap 0 4 2 1":                   api.ErrRange,
		"lap -4 4 2 1":                  api.ErrRange,
		"lap 10000000 4 2 1":            api.ErrSyntax,
		"lap 4 4 2 1 01":                api.ErrSyntax,
		"lap 100001 4 2 1":              api.ErrRange,
		"fingers 1 99 1" + strings.Repeat(" 9", 25): api.ErrLarge,
		"fingers 1 99 1" + strings.Repeat(" 9", 24): api.ErrForm,
	} {
		j, e := joint.Parse(text)
		if e != want || e != api.OK && !alike(j, api.Joint{}) {
			t.Errorf("%q: %v, %d, want %d", text, j, e, want)
		}
	}
}

// P3.9: the longest texts.
func TestParseLarge(t *testing.T) {
	longest := "lap 10 10 1" + strings.Repeat(" 1", 29995)[1:]
	if len(longest) != api.MaxText {
		t.Fatalf("%d bytes", len(longest))
	}
	for text, want := range map[string]api.Errno{
		longest:                               api.ErrLarge, // more than 24 numbers
		longest + " ":                         api.ErrLarge,
		strings.Repeat("x", api.MaxText):      api.ErrSyntax,
		strings.Repeat("x", api.MaxText+1):    api.ErrLarge,
		longest[:len(longest)-1] + "x":        api.ErrSyntax,
		longest[:len(longest)-1] + "x" + "\n": api.ErrLarge,
	} {
		if j, e := joint.Parse(text); e != want || !alike(j, api.Joint{}) {
			t.Errorf("%d bytes: %v, %d, want %d", len(text), j, e, want)
		}
	}
}
