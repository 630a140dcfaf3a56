package assembly_test

import (
	"regexp"
	"slices"
	"strings"
	"testing"

	"spokeshave/api"
	"spokeshave/assembly"
)

// split returns a split in the way (1, 0, -1).
func split(group, out []int) api.Split {
	return api.Split{Group: group, Out: out, Way: api.Way{X: 1, Z: -1}}
}

// P4.8: texts of splits, with the second example; sets need not ascend, and Out need not be a part of Group.
func TestPrint(t *testing.T) {
	twelve := slices.Repeat([]int{99}, 12)
	for want, p := range map[string][]api.Split{
		"":                                  nil,
		"0,1 0 -1 -1 -1\n":                  {{Group: []int{0, 1}, Out: []int{0}, Way: api.Way{X: -1, Y: -1, Z: -1}}},
		"2,1,0 99,5 1 0 -1\n0 0 0 1 0\n":    {split([]int{2, 1, 0}, []int{99, 5}), {Group: []int{0}, Out: []int{0}, Way: api.Way{Y: 1}}},
		strings.Repeat("7 7 1 0 -1\n", 100): slices.Repeat([]api.Split{split([]int{7}, []int{7})}, 100),
		strings.Repeat("99,", 11) + "99 10,10,10 1 0 -1\n":    {split(twelve, []int{10, 10, 10})},
		"1 " + strings.Repeat("99,", 11) + "99" + " 1 0 -1\n": {split([]int{1}, twelve)},
	} {
		if text, e := assembly.Print(p); text != want || e != api.OK {
			t.Errorf("%v: %q, %d", p, text, e)
		}
		if again, e := assembly.Parse(want); !alike(again, p) || e != api.OK {
			t.Errorf("%q: %v, %d", want, again, e)
		}
	}
	p, _, _ := assembly.Plan(pair(t))
	if text, e := assembly.Print(p); text != "0,1 0 -1 -1 -1\n" || e != api.OK {
		t.Errorf("the plan of a pair: %q, %d", text, e)
	}
}

// P4.8: splits without a text, and which of several errors comes first.
func TestPrintErrors(t *testing.T) {
	good, long := split([]int{0, 1}, []int{0}), slices.Repeat([]int{1}, 13)
	for name, x := range map[string]struct {
		p    []api.Split
		want api.Errno
	}{
		"101 splits":             {slices.Repeat([]api.Split{good}, 101), api.ErrLarge},
		"101 wrong splits":       {make([]api.Split, 101), api.ErrLarge},
		"no Group":               {[]api.Split{split(nil, []int{100})}, api.ErrEmpty},
		"no Out":                 {[]api.Split{good, split([]int{-1}, nil)}, api.ErrEmpty},
		"a number below 0":       {[]api.Split{split([]int{0, -1}, []int{0})}, api.ErrRange},
		"a number above 99":      {[]api.Split{split([]int{0, 1}, []int{100})}, api.ErrRange},
		"a number in a long Out": {[]api.Split{split([]int{0, 1}, append(long, 100))}, api.ErrRange},
		"range of Out, long":     {[]api.Split{split(long, []int{-1})}, api.ErrRange},
		"a long Group":           {[]api.Split{split(long, []int{0})}, api.ErrLarge},
		"a long Out":             {[]api.Split{{Group: []int{0}, Out: long}}, api.ErrLarge},
		"a way out of range":     {[]api.Split{good, {Group: []int{0}, Out: []int{0}, Way: api.Way{Y: 2}}}, api.ErrRange},
		"no way":                 {[]api.Split{{Group: []int{0}, Out: []int{0}}}, api.ErrZero},
		"the first split":        {[]api.Split{{Group: []int{0}, Out: []int{0}}, {}}, api.ErrZero},
	} {
		if text, e := assembly.Print(x.p); text != "" || e != x.want {
			t.Errorf("%s: %q, %d, want %d", name, text, e, x.want)
		}
	}
}

// P4.8: texts that Print does not write.
func TestParseErrors(t *testing.T) {
	for _, text := range []string{
		"\n", " ", "0", "0,1 0 -1 -1 -1", "0,1 0 -1 -1 -1\r\n", "0,1 0 -1 -1 -1\n\n", "\n0,1 0 -1 -1 -1\n",
		"0,1 0 -1 -1\n", "0,1 0 -1 -1 -1 0\n", "0,1  0 -1 -1 -1\n", " 0,1 0 -1 -1 -1\n", "0,1 0 -1 -1 -1 \n", "0,1\t0 -1 -1 -1\n",
		"0, 1 0 -1 -1 -1\n", "0,,1 0 -1 -1 -1\n", ",0 0 1 0 0\n", "0, 0 1 0 0\n", "0;1 0 1 0 0\n", " 0 1 0 0\n", "0  1 0 0\n",
		"00 0 1 0 0\n", "01,1 0 1 0 0\n", "+1 0 1 0 0\n", "-0 0 1 0 0\n", "-1 0 1 0 0\n", "100 0 1 0 0\n", "0 100 1 0 0\n", "0x1 0 1 0 0\n", "1_0 0 1 0 0\n", "a 0 1 0 0\n",
		"0 0 2 0 0\n", "0 0 0 -2 0\n", "0 0 0 0 0\n", "0 0 +1 0 0\n", "0 0 1 -0 0\n", "0 0 01 0 0\n", "0 0 1,0 0 0\n",
		"99999999999999999999 0 1 0 0\n", "\u0660 0 1 0 0\n",
		strings.Repeat("1,", 12) + "1 0 1 0 0\n", "0 " + strings.Repeat("1,", 12) + "1 1 0 0\n",
		strings.Repeat("0 0 1 0 0\n", 101), strings.Repeat("0 0 1 0 0\n", 100) + "0", strings.Repeat("x", 60000),
	} {
		if p, e := assembly.Parse(text); p != nil || e != api.ErrSyntax {
			t.Errorf("%q: %v, %d", text, p, e)
		}
	}
	for _, text := range []string{strings.Repeat("x", 60001), strings.Repeat("0 0 1 0 0\n", 6001)} {
		if p, e := assembly.Parse(text); p != nil || e != api.ErrLarge {
			t.Errorf("%d bytes: %v, %d", len(text), p, e)
		}
	}
}

// P4.8: texts with random changes are read just if they have the form of texts.
func TestParseLiterally(t *testing.T) {
	numbers := `(\d|[1-9]\d)(,(\d|[1-9]\d)){0,11}`
	form := regexp.MustCompile(`^(` + numbers + ` ` + numbers + `( (-1|0|1)){3}\n)*$`)
	random := steadily(81)
	count := map[api.Errno]int{}
	for range 3000 {
		text := "0,1,2 2,1 1 0 -1\n10,11 10 0 1 0\n"
		for range number(random, 1, 3) {
			from := random.IntN(len(text) + 1)
			to := min(len(text), from+random.IntN(2))
			pieces := []string{"", ",", " ", "-", "0", "1", "9", "\n"}
			text = text[:from] + pieces[random.IntN(len(pieces))] + text[to:]
		}
		want := api.ErrSyntax
		if form.MatchString(text) && !strings.Contains(text, " 0 0 0\n") {
			want = api.OK
		}
		p, e := assembly.Parse(text)
		if e != want {
			t.Fatalf("%q: %v, %d, want %d", text, p, e, want)
		}
		if again, e := assembly.Print(p); want == api.OK && (again != text || e != api.OK) {
			t.Fatalf("%q: %v, then %q, %d", text, p, again, e)
		}
		count[e]++
	}
	if count[api.OK] < 300 || count[api.ErrSyntax] < 300 {
		t.Errorf("%v", count)
	}
}
