package design_test

import (
	"slices"
	"strconv"
	"strings"
	"testing"

	"spokeshave/api"
	"spokeshave/design"
)

// P5.3: the text of a design with all kinds of lines, in the order of the language.
func TestPrint(t *testing.T) {
	d := api.Design{
		Name:   "all",
		Params: []api.Param{{Name: "w", Text: "80000"}, {Name: "t", Text: "w / 40"}},
		Parts: []api.Row{
			{Name: "left", Species: "oak", Grain: 2, At: three("0"), Size: [3]string{"t", "20000", "min(t, w)"}},
			{Name: "fill", Species: "min", At: [3]string{"-1", "2 * (t - 1)", "w"}, Size: three("t")},
			{Name: "design", Species: "oak", Grain: 1, At: three("0"), Size: three("1")},
		},
		Ties: []api.Tie{
			{Kind: "lap", Parts: []string{"left", "fill"}, Turn: 47, At: three("0"), Size: three("t"), Numbers: []string{"t / 2"}},
			{Kind: "three", Parts: []string{"fill", "left", "design"}, At: three("w"), Size: three("t")},
			{Kind: "fingers", Parts: []string{"fill", "design"}, At: three("w"), Size: three("t"), Numbers: []string{"1", "max(1, 2)", "3"}},
		},
		Spaces: []api.Space{
			{Kind: 1, At: [3]string{"1", "2", "3"}, Size: three("min(1, 2, 3)")},
			{Kind: 0, At: three("0"), Size: three("t")},
			{Kind: 1, At: three("0"), Size: three("t")},
		},
		Groups: []api.Group{{Name: "sides", Parts: []string{"fill", "left"}}, {Name: "none"}},
	}
	want := `design all
param w = 80000
param t = w / 40
part left oak 2 at 0, 0, 0 size t, 20000, min(t, w)
part fill min 0 at -1, 2 * (t - 1), w size t, t, t
part design oak 1 at 0, 0, 0 size 1, 1, 1
tie lap left fill turn 47 at 0, 0, 0 size t, t, t with t / 2
tie three fill left design turn 0 at w, w, w size t, t, t
tie fingers fill design turn 0 at w, w, w size t, t, t with 1, max(1, 2), 3
clear 1, 2, 3 size min(1, 2, 3), min(1, 2, 3), min(1, 2, 3)
fill 0, 0, 0 size t, t, t
clear 0, 0, 0 size t, t, t
group sides fill left
group none
`
	text, e := design.Print(d)
	if e != api.OK || text != want {
		t.Errorf("%d\n%s", e, text)
	}
	if back := parsed(t, text); !alike(back, d) {
		t.Errorf("read as %v", back)
	}
	if back := parsed(t, strings.TrimSuffix(text, "\n")); !alike(back, d) {
		t.Errorf("without the last line feed read as %v", back)
	}
	if text, e := design.Print(api.Design{Name: "empty"}); e != api.OK || text != "design empty\n" {
		t.Errorf("%q, %d", text, e)
	}
	if text, e := design.Print(changed(d, func(d *api.Design) { d.Name = "" })); e != api.ErrName || text != "" {
		t.Errorf("without a name: %q, %d", text, e)
	}
}

// P5.3, P5.10: Parse undoes Print.
func TestPrintAny(t *testing.T) {
	random := steadily(10)
	for range 150 {
		k := anyDesign(t, random, number(random, 0, 4), number(random, 0, 4), number(random, 0, 3))
		for i := range random.IntN(3) {
			g := api.Group{Name: "g" + strconv.Itoa(i)}
			for _, r := range k.design.Parts[:random.IntN(len(k.design.Parts)+1)] {
				g.Parts = append(g.Parts, r.Name)
			}
			k.design.Groups = append(k.design.Groups, g)
		}
		text, e := design.Print(k.design)
		if e != api.OK {
			t.Fatalf("%v: %d", k.design, e)
		}
		if d := parsed(t, text); !alike(d, k.design) {
			t.Fatalf("%v is read as %v", k.design, d)
		}
	}
}

// P5.3: lines may be in another order, with more blanks, comments, empty lines, and expressions that are not plain.
func TestParseLoose(t *testing.T) {
	loose := `
   # a shelf

  design   shelf # design other
fill 0,0 , 10000   size   w,20000,t#size 5
   part left oak 2 at 0, 0, 0 size (t), 20000,30000
group none
part right oak 2 at w-t,0,0 size t, 20000   , 30000
#param w = 1

param   w   =   80000
part board oak 0 at   t, 0 ,10000 size w-(2*t),  20000 , min( t , t )
clear (1),2,3 size max(1,(2)),1+1,((3))
group some board left#right
tie lap left right turn 0 at 0,0,0 size 1,1,1 with 1,t/(2)
param t=w = w
`
	want := `design shelf
param w = 80000
param t = w / 40
part left oak 2 at 0, 0, 0 size t, 20000, 30000
part right oak 2 at w - t, 0, 0 size t, 20000, 30000
part board oak 0 at t, 0, 10000 size w - 2 * t, 20000, min(t, t)
tie lap left right turn 0 at 0, 0, 0 size 1, 1, 1 with 1, t / 2
fill 0, 0, 10000 size w, 20000, t
clear 1, 2, 3 size max(1, 2), 1 + 1, 3
group none
group some board left
`
	if _, line, e := design.Parse(loose); e != api.ErrName || line != 0 {
		t.Errorf("the name t=w: line %d, %d", line, e)
	}
	d := parsed(t, strings.Replace(loose, "t=w = w", "t = w/40", 1))
	if text, e := design.Print(d); e != api.OK || text != want {
		t.Errorf("%d\n%s", e, text)
	}
}

// P5.3: lines that have none of the forms, or have wrong expressions.
func TestParseLines(t *testing.T) {
	for _, line := range []string{
		"design other",
		"design",
		"x",
		"=",
		"at 1, 2, 3",
		"size",
		"Param x = 1",
		"param",
		"param x",
		"param x =",
		"param x 1",
		"param x=1",
		"param x =1",
		"param x= 1",
		"param = 1",
		"param = = 1",
		"param at = 1",
		"param size = 1",
		"param turn = 1",
		"param with = 1",
		"param x y = 1",
		"param x = 1, 2",
		"param x = 1 = 2",
		"param x = 1 at 2",
		"param x = at",
		"param x = 1 2",
		"param x = (1, 2)",
		"param x = (1",
		"param x = 1)",
		"param x = min(1",
		"param x = 01",
		"param x = 1\t",
		"param x\t= 1",
		"param x = \u00e4",
		"param x = " + long,
		"param x = " + repeated("+", 51),
		"part x oak 0 at 1, 2, 3 size 1, 2",
		"part x oak 0 at 1, 2 size 1, 2, 3",
		"part x oak 0 at 1, 2, 3, 4 size 1, 2, 3",
		"part x oak 0 at 1, 2, 3 size 1, 2, 3, 4",
		"part x oak 0 at 1, 2, 3 size 1, 2,",
		"part x oak 0 at 1, , 3 size 1, 2, 3",
		"part x oak 0 at min(1, 2, 3) size 1, 2, 3",
		"part x oak 0 at (1, 2), 3, 4 size 1, 2, 3",
		"part x oak 0 at 1), 2, (3 size 1, 2, 3",
		"part x oak 0 size 1, 2, 3 at 1, 2, 3",
		"part x oak 0 at 1, 2, 3",
		"part x oak 0 1, 2, 3 size 1, 2, 3",
		"part x oak 0 at at 1, 2, 3 size 1, 2, 3",
		"part x oak 0 at 1, 2, 3 size 1, 2, 3 with 1",
		"part x oak 0 = 1, 2, 3 size 1, 2, 3",
		"part x oak at 1, 2, 3 size 1, 2, 3",
		"part x 0 at 1, 2, 3 size 1, 2, 3",
		"part at oak 0 at 1, 2, 3 size 1, 2, 3",
		"part x size 0 at 1, 2, 3 size 1, 2, 3",
		"part x oak oak 0 at 1, 2, 3 size 1, 2, 3",
		"part x oak 00 at 1, 2, 3 size 1, 2, 3",
		"part x oak -0 at 1, 2, 3 size 1, 2, 3",
		"part x oak +1 at 1, 2, 3 size 1, 2, 3",
		"part x oak 1234567890 at 1, 2, 3 size 1, 2, 3",
		"part x oak 1_0 at 1, 2, 3 size 1, 2, 3",
		"part x oak w at 1, 2, 3 size 1, 2, 3",
		"part x oak 0 at 1, 2, 3 size 1, 2, 1 1",
		"tie lap left right turn 0 at 1, 2, 3 size 1, 2",
		"tie lap left right turn 0 at 1, 2, 3 size 1, 2, 3 with",
		"tie lap left right turn 0 at 1, 2, 3 size 1, 2, 3 with 1,",
		"tie lap left right turn 0 at 1, 2, 3 size 1, 2, 3 with 1 2",
		"tie lap left right turn 0 at 1, 2, 3 size 1, 2, 3 with 1 with 2",
		"tie lap left right turn 0 at 1, 2, 3 with 1 size 1, 2, 3",
		"tie lap left right turn 0 1 at 1, 2, 3 size 1, 2, 3",
		"tie lap left right turn at 1, 2, 3 size 1, 2, 3",
		"tie lap left right turn w at 1, 2, 3 size 1, 2, 3",
		"tie lap left right turn (1) at 1, 2, 3 size 1, 2, 3",
		"tie lap left right turn 05 at 1, 2, 3 size 1, 2, 3",
		"tie lap left right at 1, 2, 3 size 1, 2, 3 turn 0",
		"tie lap left right 0 at 1, 2, 3 size 1, 2, 3",
		"tie lap left turn 0 at 1, 2, 3 size 1, 2, 3",
		"tie lap turn 0 at 1, 2, 3 size 1, 2, 3",
		"tie turn 0 at 1, 2, 3 size 1, 2, 3",
		"tie lap left right board board turn 0 at 1, 2, 3 size 1, 2, 3",
		"tie lap left = turn 0 at 1, 2, 3 size 1, 2, 3",
		"fill",
		"fill 1, 2, 3",
		"fill size 1, 2, 3",
		"fill 1, 2, 3 size",
		"fill 1, 2, 3 size 1, 2",
		"fill 1, 2 size 1, 2, 3",
		"fill at 1, 2, 3 size 1, 2, 3",
		"fill 1, 2, 3 size 1, 2, 3 size 1, 2, 3",
		"fill x 1, 2, 3 size 1, 2, 3",
		"clear 1, 2, 3 size 1, 2, 3 with 1",
		"clear 1 2 3 size 1, 2, 3",
		"group",
		"group at",
		"group x at",
		"group = left",
		"group x left turn",
		"group x left with right",
	} {
		text := strings.Replace(shelfText, "part left", line+"\npart left", 1)
		if d, number, e := design.Parse(text); e != api.ErrSyntax || number != 4 || !alike(d, api.Design{}) {
			t.Errorf("%q: line %d, %d", line, number, e)
		}
		text = "# one\n\n" + shelfText + "   " + line
		if _, number, e := design.Parse(text); e != api.ErrSyntax || number != 10 {
			t.Errorf("%q at the end: line %d, %d", line, number, e)
		}
		first := slices.Index(strings.Fields(line), "design") == 0
		if _, number, e := design.Parse("#\n" + line + "\n" + shelfText); !first && (e != api.ErrSyntax || number != 2) {
			t.Errorf("%q at the beginning: line %d, %d", line, number, e)
		}
	}
}

// P5.3: the first line with words.
func TestParseFirst(t *testing.T) {
	for text, line := range map[string]int{
		"":                              1,
		"\n":                            1,
		"\n\n # design x\n  \n":         1,
		"design":                        1,
		"\ndesign a b":                  2,
		"#\n\n param x = 1\ndesign a\n": 3,
		"design at":                     1,
		"design =":                      1,
		"Design a":                      1,
		"design a\ndesign a":            2,
		"design a\n\ndesign":            3,
		"design a\ndesign b\nx":         2,
		"x\ndesign a\ny":                1,
		"\rdesign a":                    1,
		"design a\n\t\n":                2,
	} {
		if d, number, e := design.Parse(text); e != api.ErrSyntax || number != line || !alike(d, api.Design{}) {
			t.Errorf("%q: line %d, %d, want %d", text, number, e, line)
		}
	}
	for _, text := range []string{"design a", " design  a ", "\n\ndesign a#\n", "design a # design b\n"} {
		if d, number, e := design.Parse(text); e != api.OK || number != 0 || d.Name != "a" {
			t.Errorf("%q: %v, line %d, %d", text, d, number, e)
		}
	}
}

// P5.3: texts of designs that Check refuses, behind texts that have a wrong line.
func TestParseCheck(t *testing.T) {
	for line, want := range map[string]api.Errno{
		"param min = 1": api.ErrName,
		"param a-b = 1": api.ErrName,
		"param , = 1":   api.ErrName,
		"param w = 1":   api.ErrExists,
		"param x = y":   api.ErrMissing,
		"param x = x":   api.ErrCycle,
		"part left oak 0 at 1, 2, 3 size 1, 2, 3":                                                 api.ErrExists,
		"part j1-2 oak 0 at 1, 2, 3 size 1, 2, 3":                                                 api.ErrName,
		"part a, oak 0 at 1, 2, 3 size 1, 2, 3":                                                   api.ErrName,
		"part x oak 3 at 1, 2, 3 size 1, 2, 3":                                                    api.ErrRange,
		"part x oak -1 at 1, 2, 3 size 1, 2, 3":                                                   api.ErrRange,
		"part x oak 999999999 at 1, 2, 3 size 1, 2, 3":                                            api.ErrRange,
		"tie knot left right turn 0 at 1, 2, 3 size 1, 2, 3":                                      api.ErrKind,
		"tie lap left right board turn 0 at 1, 2, 3 size 1, 2, 3":                                 api.ErrShape,
		"tie three left right turn 0 at 1, 2, 3 size 1, 2, 3":                                     api.ErrShape,
		"tie lap left nobody turn 0 at 1, 2, 3 size 1, 2, 3":                                      api.ErrMissing,
		"tie lap left left turn 0 at 1, 2, 3 size 1, 2, 3":                                        api.ErrExists,
		"tie lap left right turn -1 at 1, 2, 3 size 1, 2, 3":                                      api.ErrRange,
		"tie lap left right turn 0 at 1, 2, 3 size 1, 2, 3 with " + ones(25):                      api.ErrLarge,
		"fill 1, 2, 3 size 1, 2, x":                                                               api.ErrMissing,
		"group a a":                                                                               api.ErrMissing,
		"group a left, right":                                                                     api.ErrMissing,
		"group a left left":                                                                       api.ErrExists,
		"group a-1":                                                                               api.OK,
		"tie lap left right turn 0 at 1, 2, 3 size 1, 2, 3 with " + ones(24):                      api.OK,
		"tie lap left right turn 0 at 1, 2, 3 size 1, 2, 3":                                       api.OK,
		"param x = " + repeated("+", 50):                                                          api.OK,
		"param x = " + strings.ReplaceAll(repeated(" + ", 50), " ", "      "):                     api.OK,
		"fill 0, 0, 0 size 1 ,  " + strings.Repeat("-", 199) + "1 , 1":                            api.OK,
		"fill 0, 0, 0 size " + strings.Repeat("(", 99) + "w" + strings.Repeat(")", 99) + ", 1, 1": api.OK,
	} {
		d, number, e := design.Parse(shelfText + line)
		if e != want || number != 0 || e != api.OK && !alike(d, api.Design{}) {
			t.Errorf("%q: %v, line %d, %d, want %d", line, d, number, e, want)
		}
		if _, number, e := design.Parse(shelfText + line + "\nx"); e != api.ErrSyntax || number != 9 {
			t.Errorf("%q, and a wrong line: line %d, %d", line, number, e)
		}
	}
}

// ones is a list of so many ones.
func ones(count int) string {
	return repeated(", ", count)
}

// P5.3: texts of 60000 bytes, and longer ones.
func TestTextLarge(t *testing.T) {
	for extra, want := range map[int]api.Errno{0: api.OK, 1: api.ErrLarge, 100: api.ErrLarge} {
		text := shelfText + strings.Repeat("#", api.MaxText-len(shelfText)+extra)
		if _, line, e := design.Parse(text); e != want || line != 0 {
			t.Errorf("%d bytes: line %d, %d", len(text), line, e)
		}
		text = strings.Repeat("x", api.MaxText+extra)
		if _, line, e := design.Parse(text); want == api.ErrLarge && (e != want || line != 0) || want == api.OK && (e != api.ErrSyntax || line != 1) {
			t.Errorf("%d bytes without blanks: line %d, %d", len(text), line, e)
		}
	}
	d := api.Design{Name: "d", Parts: []api.Row{
		{Name: "a", Species: "oak", At: three("1"), Size: three("1")}, {Name: "b", Species: "oak", At: three("1"), Size: three("1")},
	}}
	tie := api.Tie{Kind: "lap", Parts: []string{"a", "b"}, At: three("1"), Size: three("1"), Numbers: many(24, func(int) string { return repeated(" + ", 50) })}
	d.Ties = many(13, func(int) api.Tie { return tie })
	last := &d.Ties[12]
	last.Numbers = []string{"1"}
	text, e := design.Print(d)
	if e != api.OK {
		t.Fatalf("%d", e)
	}
	for rest := api.MaxText - len(text); rest > 0; rest-- {
		end := len(last.Numbers) - 1
		if len(last.Numbers[end]) > 190 && rest > 2 {
			last.Numbers = append(last.Numbers, "1")
			rest -= 2
			continue
		}
		last.Numbers[end] = "-" + last.Numbers[end]
	}
	if text, e := design.Print(d); e != api.OK || len(text) != api.MaxText {
		t.Fatalf("%d bytes, %d", len(text), e)
	}
	d.Name += "e"
	if text, e := design.Print(d); e != api.ErrLarge || text != "" {
		t.Errorf("%d bytes, %d", len(text), e)
	}
}
