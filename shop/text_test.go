package shop_test

import (
	"reflect"
	"regexp"
	"slices"
	"strings"
	"testing"

	"spokeshave/api"
	"spokeshave/shop"
)

const exampleText = `machine saw 10 60 15
machine planer 0 1000 0
clamps 4
operation rip 0 1 40
operation cross 0 2 30 0
operation spread -1 0 10 1
operation press -1 0 60 2
operation plane 1 0 20 3
glue 2 3 20 30 4
`

// alike reports whether two shops are equal, a nil list being an empty one.
func alike(a, b api.Shop) bool {
	return slices.Equal(a.Machines, b.Machines) && a.Clamps == b.Clamps && slices.Equal(a.Glues, b.Glues) &&
		slices.EqualFunc(a.Operations, b.Operations, func(x, y api.Operation) bool {
			same := slices.Equal(x.Needs, y.Needs)
			x.Needs, y.Needs = nil, nil
			return same && reflect.DeepEqual(x, y)
		})
}

// P9.8: shops and their texts.
func TestText(t *testing.T) {
	for text, s := range map[string]api.Shop{
		exampleText:                           example(),
		"clamps 0\n":                          {},
		"clamps 1000\n":                       {Clamps: 1000},
		"machine clamps 1 2 3\nclamps 0\n":    {Machines: []api.Machine{machine("clamps", 1, 2, 3)}},
		"clamps 7\noperation glue -1 100 5\n": {Clamps: 7, Operations: []api.Operation{operation("glue", -1, 100, 5)}},
		"machine m 0 1 0\nclamps 0\noperation a 0 0 1 1 2\noperation b -1 1 2\noperation c -1 2 3\n": {
			Machines:   []api.Machine{machine("m", 0, 1, 0)},
			Operations: []api.Operation{operation("a", 0, 0, 1, 1, 2), operation("b", -1, 1, 2), operation("c", -1, 2, 3)},
		},
	} {
		if x, e := shop.Print(s); x != text || e != api.OK {
			t.Errorf("Print %v: %q, %d, want %q", s, x, e, text)
		}
		if x, line, e := shop.Parse(text); !alike(x, s) || line != 0 || e != api.OK {
			t.Errorf("Parse %q: %v, %d, %d", text, x, line, e)
		}
	}
}

// P9.8: lines that have none of the forms, and their numbers.
func TestParseForms(t *testing.T) {
	for text, want := range map[string]int{
		"machine m 1 2 3":                     1,
		"machine m 1 2 3\n\nclamps 1\n":       2,
		"\n":                                  1,
		" ":                                   1,
		"clamps 4":                            1,
		"clamps\n":                            1,
		"clamps \n":                           1,
		"clamps 4 \n":                         1,
		" clamps 4\n":                         1,
		"clamps  4\n":                         1,
		"clamps 4 4\n":                        1,
		"clamps 4\r\n":                        1,
		"clamps\t4\n":                         1,
		"Clamps 4\n":                          1,
		"clamp 4\n":                           1,
		"clamps 04\n":                         1,
		"clamps +4\n":                         1,
		"clamps -0\n":                         1,
		"clamps 4_0\n":                        1,
		"clamps 0x4\n":                        1,
		"clamps \u0664\n":                     1,
		"clamps 12345678\n":                   1,
		"clamps -12345678\n":                  1,
		"clamps 99999999999999999999\n":       1,
		"clamps 4\n\n":                        2,
		"clamps 4\n \n":                       2,
		"clamps 4\noperation\n":               2,
		"clamps 4\noperation o\n":             2,
		"clamps 4\noperation o -1 0\n":        2,
		"clamps 4\noperation -1 0 1\n":        2,
		"clamps 4\noperation o o -1 0 1\n":    2,
		"clamps 4\noperation o -1 0 1 \n":     2,
		"clamps 4\noperation o -1 0 1 a\n":    2,
		"clamps 4\noperation o -1 0 1 2  3\n": 2,
		"clamps 4\noperation o -1 0 1":        2,
		"clamps 4\nglue 0 1 2 3\n":            2,
		"clamps 4\nglue 0 1 2 3 4 5\n":        2,
		"clamps 4\nglue g 0 1 2 3 4\n":        2,
		"clamps 4\nglue\n":                    2,
		"machine\nclamps 4\n":                 1,
		"machine m\nclamps 4\n":               1,
		"machine 1 2 3\nclamps 4\n":           1,
		"machine m 1 2\nclamps 4\n":           1,
		"machine m 1 2 3 4\nclamps 4\n":       1,
		"machine m m 1 2 3\nclamps 4\n":       1,
		"machine m 1 2 \nclamps 4\n":          1,
		"clamps 4\nx\nx\n":                    2,
		"clamps 4000\noperation  -1 0 1\nx":   3, // a line comes ahead of the error of Check
	} {
		checkWrong(t, text, want)
	}
}

// P9.8: lines that stand out of order, or where the line of the clamps is missing, and their numbers.
func TestParseOrder(t *testing.T) {
	for text, want := range map[string]int{
		"":                                     1, // the line of the clamps would follow
		"machine m 1 2 3\n":                    2,
		"machine m 1 2 3\nmachine m 1 2 3\n":   3,
		"operation o -1 0 1\n":                 1,
		"glue 0 1 2 3 4\n":                     1,
		"machine m 1 2 3\noperation o 0 0 1\n": 2,
		"machine m 1 2 3\nglue 0 1 2 3 4\nclamps 1\n":    2,
		"clamps 4\nclamps 4\n":                           2,
		"clamps 4\nmachine m 1 2 3\n":                    2,
		"clamps 4\nglue 0 1 2 3 4\nclamps 4\n":           3,
		"clamps 4\nglue 0 1 2 3 4\nmachine m 1 2 3\n":    3,
		"clamps 4\noperation o -1 0 1\nclamps 4\n":       3,
		"clamps 4\nglue 0 1 2 3 4\noperation o -1 0 1\n": 3,
		strings.Repeat("machine m 1 2 3\n", 20):          21,
	} {
		checkWrong(t, text, want)
	}
}

// checkWrong tests that a text is not read because of a line.
func checkWrong(t *testing.T, text string, want int) {
	t.Helper()
	if s, line, e := shop.Parse(text); !alike(s, api.Shop{}) || line != want || e != api.ErrSyntax {
		t.Errorf("%.60q: %v, %d, %d, want line %d", text, s, line, e, want)
	}
}

// P9.8: texts of shops that are wrong.
func TestParseWrong(t *testing.T) {
	for text, want := range map[string]api.Errno{
		"machine  1 2 3\nclamps 4\n":                            api.ErrName,
		"machine 5 1 2 3\nclamps 4\n":                           api.ErrName,
		"machine -1 1 2 3\nclamps 4\n":                          api.ErrName,
		"machine m\t 1 2 3\nclamps 4\n":                         api.ErrName,
		"machine m\r 1 2 3\nclamps 4\n":                         api.ErrName,
		"machine \u00e4\xff 1 2 3\nclamps 4\n":                  api.ErrName,
		"machine m 1 2 3\nmachine m 1 2 3\nclamps 4\n":          api.ErrExists,
		"machine m -1 2 3\nclamps 4\n":                          api.ErrRange,
		"clamps -1\n":                                           api.ErrRange,
		"clamps 9999999\n":                                      api.ErrRange,
		"clamps -9999999\n":                                     api.ErrRange,
		"clamps 4\noperation  -1 0 1\n":                         api.ErrName,
		"clamps 4\noperation o 0 0 1\n":                         api.ErrRange,
		"clamps 4\noperation o -1 0 1 1\n":                      api.ErrMissing,
		"clamps 4\noperation o -1 0 1 -1\n":                     api.ErrMissing,
		"clamps 4\noperation o -1 0 1 0\n":                      api.ErrCycle,
		"clamps 4\nglue 0 1 2 3 4\n":                            api.ErrMissing,
		strings.Repeat("machine m 1 2 3\n", 13) + "clamps 4\n":  api.ErrLarge,
		"clamps 4\n" + strings.Repeat("glue 0 1 2 3 4\n", 3000): api.ErrLarge,
		strings.Repeat("x", 60001):                              api.ErrLarge,
		exampleText + strings.Repeat("\n", 60000):               api.ErrLarge,
	} {
		if s, line, e := shop.Parse(text); !alike(s, api.Shop{}) || line != 0 || e != want {
			t.Errorf("%.60q: %v, %d, %d, want %d", text, s, line, e, want)
		}
	}
	if _, line, e := shop.Parse(strings.Repeat("x", 60000)); line != 1 || e != api.ErrSyntax {
		t.Errorf("60000 bytes: %d, %d", line, e)
	}
}

// P9.8: random lines by the definition.
func TestParseByDefinition(t *testing.T) {
	const number = ` (0|-?[1-9][0-9]{0,6})`
	forms := []*regexp.Regexp{
		regexp.MustCompile(`^machine [^ \n]*` + number + number + number + `\n$`),
		regexp.MustCompile(`^clamps` + number + `\n$`),
		regexp.MustCompile(`^operation [^ \n]*` + number + number + number + `(` + number + `)*\n$`),
		regexp.MustCompile(`^glue` + number + number + number + number + number + `\n$`),
	}
	lines := []string{"machine m 1 2 3", "machine  1 2 3", "clamps 4", "operation o -1 0 1", "operation  0 0 1 2 3", "glue 0 1 2 3 4"}
	words := []string{"machine", "clamps", "operation", "glue", "", "0", "1", "-1", "9999999", "10000000", "-0", "01", "x"}
	random := steadily(8)
	right := 0
	for range 40000 {
		text, want, last := "", 0, 0
		count := random.IntN(6)
		for line := range count {
			next := lines[random.IntN(len(lines))]
			if random.IntN(6) == 0 {
				parts := strings.Split(next, " ")
				parts[random.IntN(len(parts))] = words[random.IntN(len(words))]
				next = strings.Join(parts, " ")
			}
			next += "\n"
			text += next
			kind := slices.IndexFunc(forms, func(form *regexp.Regexp) bool { return form.MatchString(next) })
			if want > 0 {
				continue
			}
			// Behind machines come machines or clamps, behind clamps, operations and glue-ups no clamps and nothing of an earlier kind.
			if kind < 0 || last == 0 && kind > 1 || last > 0 && (kind < last || kind == 1) {
				want = line + 1
			}
			last = kind
		}
		if want == 0 && last == 0 {
			want = count + 1
		}
		s, line, e := shop.Parse(text)
		if line != want || (e == api.ErrSyntax) != (want > 0) || e != api.OK && !alike(s, api.Shop{}) {
			t.Fatalf("%q: %v, %d, %d, want line %d", text, s, line, e, want)
		}
		if e != api.OK {
			continue
		}
		right++
		if x, e := shop.Print(s); x != text || e != api.OK {
			t.Fatalf("%q: printed as %q, %d", text, x, e)
		}
	}
	if right < 500 {
		t.Errorf("only %d texts are right", right)
	}
}

// P9.9: what is printed is read again; also the longest text.
func TestParsePrint(t *testing.T) {
	random := steadily(88)
	for range 1000 {
		s := anyShop(random, 12)
		text, e := shop.Print(s)
		if e != api.OK {
			t.Fatalf("%v: %d", s, e)
		}
		if back, line, e := shop.Parse(text); !alike(back, s) || line != 0 || e != api.OK {
			t.Fatalf("%q: %v, %d, %d, want %v", text, back, line, e, s)
		}
	}
	s := api.Shop{Machines: machines(12), Clamps: 1000, Operations: operations(60)}
	for n := range s.Operations {
		s.Operations[n] = operation(s.Operations[n].Name+strings.Repeat("-", 9), -1, 100, 10000, upTo(n)...)
	}
	text, e := shop.Print(s)
	if e != api.OK {
		t.Fatal(e)
	}
	if back, line, e := shop.Parse(text); !alike(back, s) || line != 0 || e != api.OK {
		t.Errorf("%d bytes: %d, %d", len(text), line, e)
	}
}
