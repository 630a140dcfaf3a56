package solid_test

import (
	"strings"
	"testing"

	"spokeshave/api"
	"spokeshave/solid"
)

const unitText = "cell -1 0 0 0 0 -1 0 0 0 0 -1 0 0 0 1 4 0 1 0 3 1 0 0 2\n"

// P1.9: texts of solids.
func TestPrint(t *testing.T) {
	odd := api.Cell{Planes: []api.Plane{{A: 8, B: -8, C: 1, D: 10000000}, {A: 1, D: 2}, {B: 1, D: 3}, {C: 1, D: 4}, {A: -1}, {B: -1}, {C: -1}, {A: -1}, {A: -2, D: -1}}}
	for _, x := range []struct {
		s    api.Solid
		want string
		e    api.Errno
	}{
		{box(t, 0, 0, 0, 2, 3, 4), unitText, api.OK},
		{one(odd), "cell 8 -8 1 10000000 1 0 0 2 0 1 0 3 0 0 1 4 -1 0 0 0 0 -1 0 0 0 0 -1 0 -1 0 0 0 -2 0 0 -1\n", api.OK},
		{union(box(t, 0, 0, 0, 2, 3, 4), cube(t, -5, 300000)), unitText + "cell -1 0 0 5 0 -1 0 5 0 0 -1 5 0 0 1 300000 0 1 0 300000 1 0 0 300000\n", api.OK},
		{api.Solid{}, "", api.OK},
		{one(api.Cell{}), "", api.ErrOpen},
	} {
		text, e := solid.Print(x.s)
		if text != x.want || e != x.e {
			t.Errorf("%v: %q, %d, want %q, %d", x.s, text, e, x.want, x.e)
		}
		if back, line, e := solid.Parse(text); e != api.OK || line != 0 || x.e == api.OK && !alike(back, x.s) {
			t.Errorf("%q: %v, %d, %d", text, back, line, e)
		}
	}
}

// P1.9: random solids come back from their texts as they are.
func TestPrintParse(t *testing.T) {
	s := seed(19)
	for range 100 {
		a := s.solid(s.number(0, 4), 50000)
		text, e := solid.Print(a)
		back, line, f := solid.Parse(text)
		if e != api.OK || f != api.OK || line != 0 || !alike(back, a) {
			t.Fatalf("%v: %q, %d; %v, %d, %d", a, text, e, back, line, f)
		}
	}
}

// parsed is a text and what Parse tells of it.
type parsed struct {
	text string
	line int
	want api.Errno
}

func checkParsed(t *testing.T, l []parsed) {
	t.Helper()
	for _, x := range l {
		s, line, e := solid.Parse(x.text)
		if line != x.line || e != x.want || e != api.OK && !alike(s, api.Solid{}) {
			t.Errorf("%.40q: %d, %d, want %d, %d", x.text, line, e, x.line, x.want)
		}
	}
}

// P1.9: what is no text of a solid.
func TestParse(t *testing.T) {
	long := strings.Repeat(unitText, 1+60000/len(unitText))
	checkParsed(t, []parsed{
		{"", 0, api.OK},
		{unitText, 0, api.OK},
		{strings.Repeat(unitText, 100), 0, api.OK},
		{strings.Repeat(unitText, 101), 0, api.ErrLarge},
		{long[:60000], 1 + 60000/len(unitText), api.ErrSyntax}, // the last line has no line feed
		{long[:60001], 0, api.ErrLarge},
		{strings.Repeat("x", 60001), 0, api.ErrLarge},
		{strings.Repeat("\n", 60000), 1, api.ErrSyntax},
		{strings.TrimSuffix(unitText, "\n"), 1, api.ErrSyntax},
		{unitText + strings.TrimSuffix(unitText, "\n"), 2, api.ErrSyntax},
		{"\n", 1, api.ErrSyntax},
		{unitText + "\n", 2, api.ErrSyntax},
		{"\n" + unitText, 1, api.ErrSyntax},
		{"cell", 1, api.ErrSyntax},
		{"cell\n", 0, api.ErrOpen},
		{"cell \n", 1, api.ErrSyntax},
		{" cell\n", 1, api.ErrSyntax},
		{"Cell\n", 1, api.ErrSyntax},
		{"cell\r\n", 1, api.ErrSyntax},
		{"cells 1 0 0 0\n", 1, api.ErrSyntax},
		{"1 0 0 0\n", 1, api.ErrSyntax},
		{"cell 1 0 0\n", 1, api.ErrSyntax},
		{"cell 1 0 0 0 0\n", 1, api.ErrSyntax},
		{"cell 1 0 0 0\n", 0, api.ErrOpen},
		{"cell  1 0 0 0\n", 1, api.ErrSyntax},
		{"cell 1 0 0  0\n", 1, api.ErrSyntax},
		{"cell 1 0 0 0 \n", 1, api.ErrSyntax},
		{"cell\t1 0 0 0\n", 1, api.ErrSyntax},
		{"cell 9 0 0 0\n", 0, api.ErrRange},
		{"cell 0 0 0 0\n", 0, api.ErrZero},
		{"cell 0 0 0 0\ncell x\n", 2, api.ErrSyntax}, // the text ahead of the solid
		{"cell" + strings.Repeat(" 1 0 0 0", 17) + "\n", 0, api.ErrLarge},
		{unitText + "cell\xff\n", 2, api.ErrSyntax},
		{unitText + unitText + "cell 1\n" + unitText + "cell 2\n", 3, api.ErrSyntax},
	})
}

// P1.9: numbers as texts have them.
func TestParseNumbers(t *testing.T) {
	checkParsed(t, []parsed{
		{"cell 1 0 0 05\n", 1, api.ErrSyntax},
		{"cell 1 0 0 00\n", 1, api.ErrSyntax},
		{"cell 1 0 0 -0\n", 1, api.ErrSyntax},
		{"cell 1 0 0 -05\n", 1, api.ErrSyntax},
		{"cell 1 0 0 +5\n", 1, api.ErrSyntax},
		{"cell 1 0 0 -\n", 1, api.ErrSyntax},
		{"cell 1 0 0 --5\n", 1, api.ErrSyntax},
		{"cell 1 0 0 5-\n", 1, api.ErrSyntax},
		{"cell 1 0 0 0x1\n", 1, api.ErrSyntax},
		{"cell 1 0 0 1_0\n", 1, api.ErrSyntax},
		{"cell 1 0 0 1.0\n", 1, api.ErrSyntax},
		{"cell 1 0 0 \u0661\n", 1, api.ErrSyntax},
		{"cell 1 0 0 99999999\n", 0, api.ErrRange},
		{"cell 1 0 0 -99999999\n", 0, api.ErrRange},
		{"cell 1 0 0 100000000\n", 1, api.ErrSyntax},
		{"cell 1 0 0 -100000000\n", 1, api.ErrSyntax},
	})
}
