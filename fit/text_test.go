package fit_test

import (
	"reflect"
	"regexp"
	"slices"
	"strings"
	"testing"

	"spokeshave/api"
	"spokeshave/fit"
)

const fitsText = "fit drawer 0 500\n" +
	"outer 50000 0 0 0 0 0\n" +
	"inner 49800 300 80 0 10 10\n" +
	"fit Empty-2 -600000 600000\n" +
	"fit inner -5 -5\n" +
	"inner 1 2 3 4 1 6\n" +
	"inner 600000 2000 400 19 600000 0\n" +
	"fit outer -600000 -7\n" +
	"outer 1 2 3 4 0 6\n" +
	"outer 0 0 0 0 0 600000\n"

func fitsOfText() []api.Fit {
	return []api.Fit{
		drawer(),
		{Name: "Empty-2", Least: -600000, Most: 600000},
		{Name: "inner", Inner: []api.Made{{Size: 1, Rate: 2, Moisture: 3, Group: 4, Minus: 1, Plus: 6}, {Size: 600000, Rate: 2000, Moisture: 400, Group: 19, Minus: 600000}}, Least: -5, Most: -5},
		{Name: "outer", Outer: []api.Made{{Size: 1, Rate: 2, Moisture: 3, Group: 4, Plus: 6}, {Plus: 600000}}, Least: -600000, Most: -7},
	}
}

// P6.8: fits and their text.
func TestText(t *testing.T) {
	for name, x := range map[string]struct {
		l    []api.Fit
		text string
	}{
		"nothing": {nil, ""},
		"empty":   {[]api.Fit{{Name: "a"}}, "fit a 0 0\n"},
		"fits":    {fitsOfText(), fitsText},
	} {
		if text, e := fit.Print(x.l); text != x.text || e != api.OK {
			t.Errorf("Print %s: %q, %d", name, text, e)
		}
		if l, line, e := fit.Parse(x.text); !reflect.DeepEqual(l, x.l) || line != 0 || e != api.OK {
			t.Errorf("Parse %s: %v, %d, %d", name, l, line, e)
		}
	}
}

// P6.8: wrong lines, and their numbers.
func TestParseLines(t *testing.T) {
	head := "fit a 0 500\n"
	outer := "outer 50 0 0 0 0 0\n"
	inner := "inner 50 0 0 0 0 0\n"
	for text, want := range map[string]int{
		"\n":                              1,
		" ":                               1,
		"x\n":                             1,
		"fit":                             1,
		"fit\n":                           1,
		"fit a\n":                         1,
		"fit a 0\n":                       1,
		"fit 0 500\n":                     1,
		"fit a 0 500 1\n":                 1,
		"fit a 0 500 \n":                  1,
		"fit a  0 500\n":                  1,
		"fit a b 0 500\n":                 1,
		" fit a 0 500\n":                  1,
		"fit\ta 0 500\n":                  1,
		"Fit a 0 500\n":                   1,
		"fits a 0 500\n":                  1,
		"fit a 0 500":                     1,
		"fit a 0 500\r\n":                 1,
		"fit a 0 +500\n":                  1,
		"fit a -0 500\n":                  1,
		"fit a 00 500\n":                  1,
		"fit a - 500\n":                   1,
		"fit a --1 500\n":                 1,
		"fit a -01 500\n":                 1,
		"fit a 1_0 500\n":                 1,
		"fit a 0x1 500\n":                 1,
		"fit a 0 12345678\n":              1,
		"fit a -12345678 0\n":             1,
		"fit a 0 99999999999999999999\n":  1,
		"fit a 0 5.\n":                    1,
		"fit a 0 \u0663\n":                1,
		outer:                             1,
		inner:                             1,
		head + "\n":                       2,
		head + outer + "\n":               3,
		head + inner + outer:              3,
		head + outer + inner + outer:      4,
		head + outer + inner[:15]:         3,
		head + outer[:18]:                 2,
		head + inner + head + inner + " ": 5,
		head + "outer 50 0 0 0 0\n":       2,
		head + "outer 50 0 0 0 0 0 0\n":   2,
		head + "inner 50 0 0 0 0 0 \n":    2,
		head + "inner  50 0 0 0 0 0\n":    2,
		head + "inner a 50 0 0 0 0 0\n":   2,
		head + "inner 50 0 0 0 0 x\n":     2,
		head + "outer 50 0 0 0 0 00\n":    2,
		head + "outer\n":                  2,
		head + "Outer 50 0 0 0 0 0\n":     2,
		head + "out 50 0 0 0 0 0\n":       2,
		head + "middle 50 0 0 0 0 0\n":    2,
		"fit a 1 2\nfit a 1\nwrong\n":     2,
	} {
		if l, line, e := fit.Parse(text); l != nil || line != want || e != api.ErrSyntax {
			t.Errorf("%q: %v, %d, %d, want line %d", text, l, line, e, want)
		}
	}
}

// P6.8: texts of fits that have errors.
func TestParseErrors(t *testing.T) {
	head := "fit a 0 500\n"
	outer := "outer 50 0 0 0 0 0\n"
	inner := "inner 50 0 0 0 0 0\n"
	other := "fit b 0 500\n"
	for text, want := range map[string]api.Errno{
		head + outer + inner + inner + other + outer: api.OK,
		other + inner + head + outer:                 api.OK,
		"fit  0 500\n":                               api.ErrName,
		"fit a\tb 0 500\n":                           api.ErrName,
		"fit a\r 0 500\n":                            api.ErrName,
		"fit \xff 0 500\n":                           api.ErrName,
		"fit -5 0 500\n":                             api.ErrName,
		"fit abcdefghijklm 0 500\n":                  api.ErrName,
		"fit a 5 4\n":                                api.ErrOrder,
		"fit a 0 9999999\n":                          api.ErrRange,
		"fit a -9999999 0\n":                         api.ErrRange,
		"fit a -600001 0\n":                          api.ErrRange,
		head + head:                                  api.ErrExists,
		head + "outer -1 0 0 0 0 0\n":                api.ErrRange,
		head + "inner 50 0 0 0 -9999999 0\n":         api.ErrRange,
		head + "inner 9999999 0 0 0 0 0\n":           api.ErrRange,
		head + "inner 50 0 0 20 0 0\n":               api.ErrRange,
		head + strings.Repeat(outer, 20):             api.OK,
		head + strings.Repeat(outer, 21):             api.ErrLarge,
		head + outer + strings.Repeat(inner, 20):     api.ErrLarge,
		strings.Repeat(head, 61):                     api.ErrLarge,
		strings.Repeat("a", 60001):                   api.ErrLarge,
		strings.Repeat("\n", 60001):                  api.ErrLarge,
		"fit  5 4\n":                                 api.ErrName,
		"fit a 5 4\nfit  0 0\n":                      api.ErrOrder,
		"fit fit 0 500\n":                            api.OK,
	} {
		if l, line, e := fit.Parse(text); line != 0 || e != want || e != api.OK && l != nil {
			t.Errorf("%.40q: %v, %d, %d, want %d", text, l, line, e, want)
		}
	}
	// A text of 60000 bytes is read: its name is too long by far, but not the text.
	full := "fit " + strings.Repeat("a", 60000-len("fit  0 500\n")) + " 0 500\n"
	if _, line, e := fit.Parse(full); len(full) != 60000 || line != 0 || e != api.ErrName {
		t.Errorf("%d bytes: %d, %d", len(full), line, e)
	}
	if _, line, e := fit.Parse(full + "\n"); line != 0 || e != api.ErrLarge {
		t.Errorf("%d bytes: %d, %d", len(full)+1, line, e)
	}
}

// P6.8: a line is right if it has one of three forms, and an outer one if it is behind no inner one of its fit.
func TestParseByDefinition(t *testing.T) {
	number := `(0|-?[1-9][0-9]{0,6})`
	isFit := regexp.MustCompile(`^fit [^ \n]*( ` + number + `){2}\n$`)
	isOuter := regexp.MustCompile(`^outer( ` + number + `){6}\n$`)
	isInner := regexp.MustCompile(`^inner( ` + number + `){6}\n$`)
	words := []string{"fit", "outer", "inner", "a", "", "0", "1", "20", "300", "9999999", "12345678", "-1", "-0", "-", "00", "+1"}
	random := steadily(8)
	count := map[bool]int{}
	for range 20000 {
		lines := []string{"fit a 0 500\n", "outer 50 0 0 0 0 0\n", "inner 50 0 0 0 0 0\n", "inner 50 0 0 0 0 0\n", "fit b 1 2\n"}
		random.Shuffle(len(lines), func(i, j int) { lines[i], lines[j] = lines[j], lines[i] })
		lines = append([]string{"fit x -1 1\n"}, lines...)
		i := random.IntN(len(lines))
		parts := strings.Split(strings.TrimSuffix(lines[i], "\n"), " ")
		for range random.IntN(3) {
			at := random.IntN(len(parts))
			switch random.IntN(3) {
			case 0:
				parts[at] = words[random.IntN(len(words))]
			case 1:
				parts = slices.Insert(parts, at, words[random.IntN(len(words))])
			case 2:
				if parts = slices.Delete(parts, at, at+1); len(parts) == 0 {
					parts = []string{""}
				}
			}
		}
		lines[i] = strings.Join(parts, " ") + "\n"
		want, fits, inside := 0, false, false
		for n, line := range lines {
			switch {
			case isFit.MatchString(line):
				fits, inside = true, false
			case isInner.MatchString(line) && fits:
				inside = true
			case isOuter.MatchString(line) && fits && !inside:
			default:
				want = n + 1
			}
			if want > 0 {
				break
			}
		}
		count[want == 0]++
		_, line, e := fit.Parse(strings.Join(lines, ""))
		if line != want || (e == api.ErrSyntax) != (want > 0) {
			t.Fatalf("%q: %d, %d, want line %d", lines, line, e, want)
		}
	}
	if count[true] < 1000 || count[false] < 1000 {
		t.Errorf("too few of one sort to tell: %v", count)
	}
}

// P6.11: what is printed is read again; also the longest text.
func TestParsePrint(t *testing.T) {
	random := steadily(11)
	longest := manyFits(60)
	for i := range longest {
		longest[i] = api.Fit{Name: "abcdefghij" + longest[i].Name[1:], Least: -600000, Most: -600000}
		for range 20 {
			longest[i].Outer = append(longest[i].Outer, api.Made{Size: 100000, Rate: 2000, Moisture: 400, Group: 19, Minus: 100000, Plus: 500000})
		}
	}
	tests := [][]api.Fit{longest}
	for range 300 {
		l := manyFits(random.IntN(6))
		for i := range l {
			name := l[i].Name
			l[i] = anyFit(random)
			l[i].Name = name
		}
		tests = append(tests, l)
	}
	for _, l := range tests {
		text, e := fit.Print(l)
		if e != api.OK || len(text) > api.MaxText {
			t.Fatalf("Print %v: %d bytes, %d", l, len(text), e)
		}
		if again, line, e := fit.Parse(text); len(again)+len(l) > 0 && !reflect.DeepEqual(again, l) || line != 0 || e != api.OK {
			t.Fatalf("%q: %v, %d, %d", text, again, line, e)
		}
	}
}
