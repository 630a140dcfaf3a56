package cutting_test

import (
	"regexp"
	"slices"
	"strings"
	"testing"

	"spokeshave/api"
	"spokeshave/cutting"
)

const exampleText = "layout 0\nacross 30 1 2\nalong 40 7 8\nacross 50 3 4\nalong 20 5 6\nwaste\npiece 0\npiece 0\npiece 1\nwaste\n"

// P8.8: plans and their texts.
func TestText(t *testing.T) {
	for text, plan := range map[string][]api.Layout{
		"":                                      nil,
		exampleText:                             examplePlan(),
		"layout 7\n":                            {layout(7)},
		"layout 9999999\nwaste\n":               {layout(9999999, waste())},
		"layout 3\nlayout 3\nwaste\nlayout 0\n": {layout(3), layout(3, waste()), layout(0)},
		"layout 0\npiece 9999999\n":             {layout(0, piece(9999999))},
		"layout 0\nacross 0 1 0\n":              {layout(0, across(0, 1, 0))},
		"layout 0\nalong 9999999 9999999 9999999\nwaste\npiece 0\n": {layout(0, along(9999999, 9999999, 9999999), waste(), piece(0))},
	} {
		if s, e := cutting.Print(plan); s != text || e != api.OK {
			t.Errorf("Print %v: %q, %d, want %q", plan, s, e, text)
		}
		if l, line, e := cutting.Parse(text); !alikePlans(l, plan) || line != 0 || e != api.OK {
			t.Errorf("Parse %q: %v, %d, %d", text, l, line, e)
		}
	}
}

// alikePlans reports whether two plans are equal.
func alikePlans(a, b []api.Layout) bool {
	return slices.EqualFunc(a, b, func(x, y api.Layout) bool { return x.Board == y.Board && slices.Equal(x.Cuts, y.Cuts) })
}

// P8.8: plans without a text, and which of their errors comes first.
func TestPrintErrors(t *testing.T) {
	many := func(cuts int) api.Layout { return layout(0, slices.Repeat([]api.Cut{waste()}, cuts)...) }
	at := func(c api.Cut) []api.Layout { return []api.Layout{layout(0, waste(), c)} }
	const over = 10000000
	for name, x := range map[string]struct {
		plan []api.Layout
		want api.Errno
	}{
		"100 layouts":                  {make([]api.Layout, 100), api.OK},
		"101 layouts":                  {append(make([]api.Layout, 100), layout(-1)), api.ErrLarge},
		"400 regions":                  {[]api.Layout{many(400)}, api.OK},
		"401 regions":                  {[]api.Layout{many(401)}, api.ErrLarge},
		"board -1":                     {[]api.Layout{layout(-1)}, api.ErrRange},
		"board too great":              {[]api.Layout{layout(over)}, api.ErrRange},
		"regions before the board":     {[]api.Layout{{Board: -1, Cuts: many(401).Cuts}}, api.ErrLarge},
		"board before regions":         {[]api.Layout{layout(-1, api.Cut{Across: true})}, api.ErrRange},
		"board, then too many regions": {[]api.Layout{layout(-1), many(401)}, api.ErrRange},
		"form, then too many regions":  {[]api.Layout{layout(0, api.Cut{Across: true}), many(401)}, api.ErrForm},
		"form, then a board":           {[]api.Layout{layout(0, api.Cut{Across: true}), layout(-1)}, api.ErrForm},
		"At -1":                        {at(across(-1, 1, 2)), api.ErrRange},
		"At too great":                 {at(across(over, 1, 2)), api.ErrRange},
		"Low -1":                       {at(along(1, -1, 2)), api.ErrRange},
		"Low too great":                {at(along(1, over, 2)), api.ErrRange},
		"High -1":                      {at(along(1, 1, -1)), api.ErrRange},
		"High too great":               {at(along(1, 1, over)), api.ErrRange},
		"Blank -2":                     {at(piece(-2)), api.ErrRange},
		"Blank too great":              {at(piece(over)), api.ErrRange},
		"a leaf with At":               {at(api.Cut{At: 1}), api.ErrForm},
		"a leaf with High":             {at(api.Cut{High: 1}), api.ErrForm},
		"a leaf across":                {at(api.Cut{Across: true, Blank: -1}), api.ErrForm},
		"a cut with a blank":           {at(api.Cut{Low: 1, Blank: 1}), api.ErrForm},
		"a cut with blank -1":          {at(api.Cut{Low: 1, Blank: -1}), api.ErrForm},
		"range before form":            {at(api.Cut{At: -1}), api.ErrRange},
		"range of a blank before form": {at(api.Cut{Low: 1, Blank: -2}), api.ErrRange},
		"form before a later range":    {[]api.Layout{layout(0, api.Cut{At: 1}, piece(-2))}, api.ErrForm},
	} {
		if s, e := cutting.Print(x.plan); e != x.want || e != api.OK && s != "" {
			t.Errorf("%s: %.20q, %d, want %d", name, s, e, x.want)
		}
	}
}

// P8.8: wrong lines, and their numbers.
func TestParseLines(t *testing.T) {
	for text, want := range map[string]int{
		"\n":                                   1,
		" ":                                    1,
		"layout":                               1,
		"layout\n":                             1,
		"layout 0":                             1,
		"layout 0 \n":                          1,
		" layout 0\n":                          1,
		"layout  0\n":                          1,
		"layout 0 0\n":                         1,
		"layout -1\n":                          1,
		"layout 10000000\n":                    1,
		"layout 01\n":                          1,
		"layout +1\n":                          1,
		"layout 1_0\n":                         1,
		"layout \u0661\n":                      1,
		"layout 0\r\n":                         1,
		"Layout 0\n":                           1,
		"layouts 0\n":                          1,
		"piece 0\n":                            1,
		"waste\n":                              1,
		"across 1 1 2\n":                       1,
		"along 1 1 2\nlayout 0\n":              1,
		"layout 0\n\n":                         2,
		"layout 0\nwaste":                      2,
		"layout 0\nwaste 0\n":                  2,
		"layout 0\nwaste \n":                   2,
		"layout 0\nwaste\r\n":                  2,
		"layout 0\npiece\n":                    2,
		"layout 0\npiece -1\n":                 2,
		"layout 0\npiece -0\n":                 2,
		"layout 0\npiece 1 2\n":                2,
		"layout 0\npiece x\n":                  2,
		"layout 0\npiece \n":                   2,
		"layout 0\nacross 1 1\n":               2,
		"layout 0\nacross 1 1 2 3\n":           2,
		"layout 0\nacross 1 0 2\n":             2,
		"layout 0\nalong 1 0 2\n":              2,
		"layout 0\nalong 0 00 0\n":             2,
		"layout 0\nalong 1  2\n":               2,
		"layout 0\nalong -1 1 2\n":             2,
		"layout 0\nalong 1 1 12345678\n":       2,
		"layout 0\nwaste\nwaste x":             3,
		"layout 0\nwaste\nx\nx\n":              3,
		"layout 0\nwaste\npiece 1\nlayout x\n": 4,
		strings.Repeat("layout 0\n", 101) + "x\n":                102,
		"layout 0\n" + strings.Repeat("waste\n", 500) + "wast\n": 502,
	} {
		if l, line, e := cutting.Parse(text); len(l) != 0 || line != want || e != api.ErrSyntax {
			t.Errorf("%.40q: %v, %d, %d, want line %d", text, l, line, e, want)
		}
	}
}

// P8.8: texts that are too long, or have too many layouts or regions.
func TestParseLarge(t *testing.T) {
	for name, x := range map[string]struct {
		text string
		want api.Errno
	}{
		"100 layouts":       {strings.Repeat("layout 0\n", 100), api.OK},
		"101 layouts":       {strings.Repeat("layout 0\n", 101), api.ErrLarge},
		"400 regions":       {"layout 0\n" + strings.Repeat("waste\n", 400), api.OK},
		"401 regions":       {"layout 0\n" + strings.Repeat("waste\n", 401), api.ErrLarge},
		"401 in the second": {"layout 0\nlayout 1\n" + strings.Repeat("waste\n", 401), api.ErrLarge},
		"two of 400":        {strings.Repeat("layout 0\n"+strings.Repeat("waste\n", 400), 2), api.OK},
		"60001 bytes":       {strings.Repeat("x", 60001), api.ErrLarge},
	} {
		if l, line, e := cutting.Parse(x.text); line != 0 || e != x.want || e != api.OK && len(l) > 0 {
			t.Errorf("%s: %d layouts, %d, %d, want %d", name, len(l), line, e, x.want)
		}
	}
	if _, line, e := cutting.Parse(strings.Repeat("x", 60000)); line != 1 || e != api.ErrSyntax {
		t.Errorf("60000 bytes: %d, %d", line, e)
	}
	// A text of 60000 bytes, 30 layouts with 9955 regions in all.
	full := ""
	for i := range 30 {
		full += "layout 0\n" + strings.Repeat("waste\n", 331+min(1, i/5))
	}
	if l, line, e := cutting.Parse(full); len(full) != api.MaxText || len(l) != 30 || line != 0 || e != api.OK {
		t.Errorf("%d bytes: %d layouts, %d, %d", len(full), len(l), line, e)
	}
	if l, line, e := cutting.Parse(full + "\n"); len(l) != 0 || line != 0 || e != api.ErrLarge {
		t.Errorf("%d bytes: %d layouts, %d, %d", len(full)+1, len(l), line, e)
	}
}

// P8.8: random lines by the definition.
func TestParseByDefinition(t *testing.T) {
	number := `(0|[1-9][0-9]{0,6})`
	right := regexp.MustCompile(`^(layout ` + number + `|piece ` + number + `|waste|(across|along) ` + number + ` [1-9][0-9]{0,6} ` + number + `)\n$`)
	words := []string{"layout", "piece", "waste", "across", "along", "", "0", "1", "20", "9999999", "10000000", "-1", "00", "x"}
	random := steadily(8)
	found := 0
	for range 40000 {
		text, want := "", 0
		for line := range 1 + random.IntN(3) {
			var parts []string
			for range 1 + random.IntN(4) {
				parts = append(parts, words[random.IntN(len(words))])
			}
			if random.IntN(3) > 0 {
				lines := []string{"layout 1", "piece 2", "waste", "across 1 2 3", "along 1 2 0"}
				parts = []string{lines[random.IntN(len(lines))]}
			}
			next := strings.Join(parts, " ") + "\n"
			if want == 0 && (!right.MatchString(next) || !strings.HasPrefix(text+next, "layout ")) {
				want = line + 1
			}
			text += next
		}
		l, line, e := cutting.Parse(text)
		if line != want || (e == api.ErrSyntax) != (want > 0) || want == 0 && e != api.OK {
			t.Fatalf("%q: %v, %d, %d, want line %d", text, l, line, e, want)
		}
		if e != api.OK {
			continue
		}
		found++
		if s, e := cutting.Print(l); s != text || e != api.OK {
			t.Fatalf("%q: printed as %q, %d", text, s, e)
		}
	}
	if found < 1000 {
		t.Errorf("only %d texts are right", found)
	}
}

// P8.11: what is printed is read again.
func TestParsePrint(t *testing.T) {
	random := steadily(88)
	for range 2000 {
		_, plan := anyPlan(random)
		text, e := cutting.Print(plan)
		if e != api.OK {
			t.Fatalf("%v: %d", plan, e)
		}
		if l, line, e := cutting.Parse(text); !alikePlans(l, plan) || line != 0 || e != api.OK {
			t.Fatalf("%q: %v, %d, %d, want %v", text, l, line, e, plan)
		}
	}
	// A plan may have a longer text than may be read.
	long := slices.Repeat([]api.Layout{sliced(199)}, 100)
	text, e := cutting.Print(long)
	if len(text) <= api.MaxText || e != api.OK {
		t.Errorf("%d bytes, %d", len(text), e)
	}
	if l, line, e := cutting.Parse(text); len(l) != 0 || line != 0 || e != api.ErrLarge {
		t.Errorf("%d bytes read again: %d, %d", len(text), line, e)
	}
}
