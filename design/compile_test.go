package design_test

import (
	"math/rand/v2"
	"slices"
	"strconv"
	"strings"
	"testing"

	"spokeshave/api"
	"spokeshave/design"
	"spokeshave/solid"
)

// named returns the names in texts, ascending, each once.
func named(texts []string) []string {
	var l []string
	for _, text := range texts {
		l = append(l, wordsIn(text)...)
	}
	slices.Sort(l)
	return slices.Compact(l)
}

// looseOf returns the tie of a loose member, or -1 for a part.
func looseOf(piece string, d api.Design) int {
	if slices.ContainsFunc(d.Parts, func(r api.Row) bool { return r.Name == piece }) {
		return -1
	}
	tie, _, _ := strings.Cut(piece[1:], "-")
	n, _ := strconv.Atoi(tie)
	return n
}

// P5.9: a compiled design has its design, its values, and for each piece the name, the blank, the solid and the names in its texts.
func TestCompile(t *testing.T) {
	random := steadily(60)
	for range 100 {
		d := anyDesign(t, random, number(random, 0, 4), number(random, 0, 5), number(random, 0, 2)).design
		solids, wantError := design.Solids(d)
		c, e := design.Compile(d)
		if e != wantError {
			t.Fatalf("%v: %d, want %d", d, e, wantError)
		}
		if e != api.OK {
			continue
		}
		values, _ := design.Values(d)
		names, _ := design.Pieces(d)
		if !alike(c.Design, d) || !alike(c.Values, values) || len(c.Pieces) != len(names) {
			t.Fatalf("%v: %v", d, c)
		}
		for i, p := range c.Pieces {
			blank, _ := design.Blank(d, p.Name)
			want := api.Piece{Name: names[i], Blank: blank, Solid: solids[i], Uses: named(textsOf(d, p.Name, looseOf(p.Name, d)))}
			if !alike(p, want) {
				t.Fatalf("%v: %v, want %v", d, p, want)
			}
		}
	}
	c, e := design.Compile(parsed(t, rackText))
	if e != api.OK {
		t.Fatalf("%d", e)
	}
	for i, want := range [][]string{{"l", "u", "v"}, {"l", "u", "v"}, {"l", "u", "v"}, {"u"}, {"u", "v"}, {"u", "v"}, nil} {
		if !alike(c.Pieces[i].Uses, want) {
			t.Errorf("%s uses %v, want %v", c.Pieces[i].Name, c.Pieces[i].Uses, want)
		}
	}
}

// sourcesOf writes the sources of a piece as a text, or "" if the design has no such piece. The values are those that are given.
func sourcesOf(d api.Design, values []int, piece string, loose int) string {
	var b strings.Builder
	write := func(words ...string) { b.WriteString(strings.Join(words, "|") + "\n") }
	writeTie := func(x api.Tie) {
		write(x.Kind, strings.Join(x.Parts, " "), strconv.Itoa(x.Turn), strings.Join(x.At[:], ";"), strings.Join(x.Size[:], ";"), strings.Join(x.Numbers, ";"))
	}
	if loose >= 0 {
		if loose >= len(d.Ties) {
			return ""
		}
		writeTie(d.Ties[loose])
	} else {
		i := slices.IndexFunc(d.Parts, func(r api.Row) bool { return r.Name == piece })
		if i < 0 {
			return ""
		}
		r := d.Parts[i]
		write(r.Name, r.Species, strconv.Itoa(r.Grain), strings.Join(r.At[:], ";"), strings.Join(r.Size[:], ";"))
		for _, x := range d.Ties {
			if slices.Contains(x.Parts, piece) {
				writeTie(x)
				write(strconv.Itoa(slices.Index(x.Parts, piece)))
			}
		}
	}
	for _, name := range named(textsOf(d, piece, loose)) {
		i := slices.IndexFunc(d.Params, func(p api.Param) bool { return p.Name == name })
		write(name, strconv.Itoa(values[i]))
	}
	return b.String()
}

// changes returns a design with some changes, or false if it does not resolve.
func changes(random *rand.Rand, d api.Design) (api.Design, bool) {
	d = changed(d)
	for range number(random, 0, 3) {
		switch choice := random.IntN(11); {
		case choice < 3 && len(d.Params) > 0:
			p := &d.Params[random.IntN(len(d.Params))]
			p.Text = strconv.Itoa(number(random, 1, 30))
		case choice == 3:
			d.Params = slices.Insert(d.Params, 0, api.Param{Name: "new" + strconv.Itoa(len(d.Params)), Text: "7"})
		case choice == 4 && len(d.Parts) > 0:
			i := random.IntN(len(d.Parts))
			d.Parts[i].Grain = random.IntN(3)
			d.Parts[i].Species = anyOf(random, []string{"oak", "ash"})
		case choice == 5 && len(d.Parts) > 1:
			d.Parts[0], d.Parts[1] = d.Parts[1], d.Parts[0]
		case choice == 6 && len(d.Ties) > 1:
			d.Ties[0], d.Ties[1] = d.Ties[1], d.Ties[0]
		case choice == 7 && len(d.Ties) > 0:
			i := random.IntN(len(d.Ties))
			d.Ties = slices.Delete(d.Ties, i, i+1)
		case choice == 8 && len(d.Ties) > 0:
			x := &d.Ties[random.IntN(len(d.Ties))]
			x.Parts[0], x.Parts[1] = x.Parts[1], x.Parts[0]
		case choice == 9 && len(d.Ties) > 0:
			d.Ties[random.IntN(len(d.Ties))].At[random.IntN(3)] = strconv.Itoa(number(random, -20, 20))
		case choice == 10 && len(d.Parts) > 0:
			r := d.Parts[random.IntN(len(d.Parts))]
			r.Name = "new" + strconv.Itoa(len(d.Parts))
			d.Parts = append(d.Parts, r)
		}
	}
	_, e := design.Compile(d)
	return d, e == api.OK
}

// P5.9, P5.12: Update of a compiled design is Compile; what has other sources is made anew, and what has the same ones is taken over as it is.
func TestUpdateAny(t *testing.T) {
	random := steadily(61)
	taken, anew := 0, 0
	for range 400 {
		before := anyDesign(t, random, number(random, 0, 4), number(random, 0, 5), number(random, 0, 1)).design
		d, ok := changes(random, before)
		c, e := design.Compile(before)
		if !ok || e != api.OK {
			continue
		}
		fresh, _ := design.Compile(d)
		mixed, _ := design.Compile(d)
		marks := marked(c)
		var names []string
		for i, p := range fresh.Pieces {
			loose := looseOf(p.Name, d)
			k := slices.IndexFunc(c.Pieces, func(q api.Piece) bool { return q.Name == p.Name })
			if k < 0 || sourcesOf(before, c.Values, p.Name, loose) != sourcesOf(d, fresh.Values, p.Name, loose) {
				names = append(names, p.Name)
				anew++
				continue
			}
			mixed.Pieces[i] = marks.Pieces[k]
			taken++
		}
		if got, l, e := design.Update(c, d); e != api.OK || !alike(l, names) || !alike(got, fresh) {
			t.Fatalf("from %v to %v: %v, %v, %d, want %v, %v", before, d, got, l, e, fresh, names)
		}
		if got, l, e := design.Update(marks, d); e != api.OK || !alike(l, names) || !alike(got, mixed) {
			t.Fatalf("from %v, marked, to %v: %v, %v, %d, want %v, %v", before, d, got, l, e, mixed, names)
		}
	}
	if taken < 200 || anew < 200 {
		t.Errorf("%d taken over, %d made anew", taken, anew)
	}
}

// marked returns a compiled design whose pieces are marked.
func marked(c api.Compiled) api.Compiled {
	c.Pieces = slices.Clone(c.Pieces)
	for i := range c.Pieces {
		p := &c.Pieces[i]
		p.Blank.X1 = 1000 + i
		p.Solid = api.Solid{Cells: []api.Cell{{Planes: []api.Plane{{D: i}}}, {}}}
		p.Uses = []string{"mark", strconv.Itoa(i)}
	}
	return c
}

// P5.9: examples of the chapter, and of what counts as a source.
func TestUpdate(t *testing.T) {
	shelf, rack := parsed(t, shelfText), parsed(t, rackText)
	set := func(name, text string) func(d *api.Design) {
		return func(d *api.Design) {
			i := slices.IndexFunc(d.Params, func(p api.Param) bool { return p.Name == name })
			d.Params[i].Text = text
		}
	}
	for what, x := range map[string]struct {
		d      api.Design
		change func(d *api.Design)
		want   []string
	}{
		"nothing":                        {shelf, func(d *api.Design) {}, nil},
		"w":                              {shelf, set("w", "60000"), []string{"left", "right", "board"}},
		"w, but not t":                   {shelf, func(d *api.Design) { set("w", "60000")(d); set("t", "2000")(d) }, []string{"right", "board"}},
		"another text of the same value": {shelf, set("t", "2000"), nil},
		"a parameter that nothing uses":  {shelf, func(d *api.Design) { d.Params = append(d.Params, api.Param{Name: "h", Text: "5"}) }, nil},
		"another order of parameters":    {shelf, func(d *api.Design) { slices.Reverse(d.Params) }, nil},
		"another order of parts":         {shelf, func(d *api.Design) { slices.Reverse(d.Parts) }, nil},
		"another text of a part":         {shelf, func(d *api.Design) { d.Parts[1].At[1] = "1 - 1" }, []string{"right"}},
		"another size of a part":         {shelf, func(d *api.Design) { d.Parts[1].Size[2] = "30001" }, []string{"right"}},
		"another grain":                  {shelf, func(d *api.Design) { d.Parts[0].Grain = 1 }, []string{"left"}},
		"another species":                {shelf, func(d *api.Design) { d.Parts[2].Species = "ash" }, []string{"board"}},
		"another name of a part":         {shelf, func(d *api.Design) { d.Parts[2].Name = "plank" }, []string{"plank"}},
		"names exchanged":                {shelf, func(d *api.Design) { d.Parts[0].Name, d.Parts[1].Name = "right", "left" }, []string{"right", "left"}},
		"other spaces, groups and name":  {shelf, func(d *api.Design) { d.Spaces, d.Groups, d.Name = nil, []api.Group{{Name: "g"}}, "n" }, nil},
		"u": {rack, func(d *api.Design) {
			set("u", "11")(d)
			set("v", "20")(d)
			set("l", "40")(d)
			d.Ties[0].Numbers[3] = "10"
		}, []string{"a", "b", "c", "d", "j0-0", "j0-1"}},
		"another number of a tie":            {rack, func(d *api.Design) { d.Ties[0].Numbers[3] = "11" }, []string{"a", "b", "j0-0", "j0-1"}},
		"another place of a tie":             {rack, func(d *api.Design) { d.Ties[2].At[2] = "-1" }, []string{"b", "d", "j2-0"}},
		"another size of a tie":              {rack, func(d *api.Design) { d.Ties[2].Size[2] = "31" }, []string{"b", "d", "j2-0"}},
		"another turn of a tie":              {rack, func(d *api.Design) { d.Ties[3].Turn = 26 }, []string{"a", "c", "d"}},
		"another kind of a tie":              {rack, func(d *api.Design) { d.Ties[1].Kind = "fingers" }, []string{"b", "c"}},
		"other places of members":            {rack, func(d *api.Design) { d.Ties[1].Parts = []string{"c", "b"} }, []string{"b", "c"}},
		"another member":                     {rack, func(d *api.Design) { d.Ties[1].Parts = []string{"b", "a"} }, []string{"a", "b", "c"}},
		"no tie":                             {rack, func(d *api.Design) { d.Ties = d.Ties[:3] }, []string{"a", "c", "d"}},
		"ties with other numbers":            {rack, func(d *api.Design) { d.Ties = slices.Insert(d.Ties[1:], 1, d.Ties[0]) }, []string{"b", "j1-0", "j1-1"}},
		"ties of no common member exchanged": {rack, func(d *api.Design) { d.Ties[2], d.Ties[3] = d.Ties[3], d.Ties[2] }, []string{"d", "j3-0"}},
		"one dowel more":                     {rack, func(d *api.Design) { d.Ties[0].Numbers = append(d.Ties[0].Numbers[:6:6], "10", "15") }, []string{"a", "b", "j0-0"}},
	} {
		c, e := design.Compile(x.d)
		if e != api.OK {
			t.Fatalf("%d", e)
		}
		d := changed(x.d, x.change)
		want, e := design.Compile(d)
		if e != api.OK {
			t.Errorf("%s: %d", what, e)
		}
		if got, l, e := design.Update(c, d); e != api.OK || !alike(l, x.want) || !alike(got, want) {
			t.Errorf("%s: %v, %d, want %v", what, l, e, x.want)
		}
	}
}

// P5.9: compiled designs that Compile has not made.
func TestUpdateMade(t *testing.T) {
	shelf, rack := parsed(t, shelfText), parsed(t, rackText)
	for what, x := range map[string]struct {
		d      api.Design
		change func(c *api.Compiled)
		want   []string
	}{
		"no pieces":                      {shelf, func(c *api.Compiled) { c.Pieces = nil }, []string{"left", "right", "board"}},
		"a piece that is not there":      {shelf, func(c *api.Compiled) { c.Pieces = c.Pieces[1:] }, []string{"left"}},
		"a loose member not there":       {rack, func(c *api.Compiled) { c.Pieces = slices.Delete(c.Pieces, 5, 6) }, []string{"j0-1"}},
		"another value of t":             {shelf, func(c *api.Compiled) { c.Values[1] = 1 }, []string{"left", "right", "board"}},
		"another value of w":             {shelf, func(c *api.Compiled) { c.Values[0] = 1 }, []string{"right", "board"}},
		"another value of v":             {rack, func(c *api.Compiled) { c.Values[1]-- }, []string{"b", "c", "a", "j0-0", "j0-1"}},
		"another design":                 {shelf, func(c *api.Compiled) { c.Design.Parts[0].Grain = 0 }, []string{"left"}},
		"a design without values":        {shelf, func(c *api.Compiled) { c.Design.Params[1].Text = "w / 0" }, nil},
		"another order of pieces":        {shelf, func(c *api.Compiled) { slices.Reverse(c.Pieces) }, nil},
		"a part that is loose elsewhere": {shelf, func(c *api.Compiled) { c.Pieces[0].Name = "j0-0" }, []string{"left"}},
	} {
		c, _ := design.Compile(x.d)
		x.change(&c)
		got, l, e := design.Update(c, x.d)
		want, _ := design.Compile(x.d)
		slices.Sort(l)
		slices.Sort(x.want)
		if e != api.OK || !alike(l, x.want) || !alike(got, want) {
			t.Errorf("%s: %v, %d, want %v", what, l, e, x.want)
		}
	}
	// Of two pieces with the same name the first one is taken over, and only those of the design are there.
	c, _ := design.Compile(shelf)
	marks := marked(c)
	c.Pieces = slices.Concat(marks.Pieces[:1], c.Pieces, marks.Pieces)
	want, _ := design.Compile(shelf)
	want.Pieces[0] = marks.Pieces[0]
	if got, l, e := design.Update(c, shelf); e != api.OK || len(l) > 0 || !alike(got, want) {
		t.Errorf("%v, %v, %d", got, l, e)
	}
}

// P5.9: the errors of Update, and which one comes first.
func TestUpdateErrors(t *testing.T) {
	shelf := parsed(t, shelfText)
	c, _ := design.Compile(shelf)
	wrong := changed(shelf, func(d *api.Design) { d.Parts[0].Grain = 5 })
	loose := changed(shelf, func(d *api.Design) { d.Params[1].Text = "w / 0" })
	for what, x := range map[string]struct {
		c    api.Compiled
		d    api.Design
		want api.Errno
	}{
		"nothing compiled":            {api.Compiled{}, wrong, api.ErrName},
		"a wrong design before":       {api.Compiled{Design: changed(shelf, func(d *api.Design) { d.Spaces[0].Kind = 5 })}, wrong, api.ErrKind},
		"no values":                   {api.Compiled{Design: shelf}, wrong, api.ErrShape},
		"too many values":             {api.Compiled{Design: shelf, Values: []int{1, 2, 3}}, loose, api.ErrShape},
		"a wrong design":              {c, wrong, api.ErrRange},
		"a design that has no values": {c, loose, api.ErrZero},
		"a part that is too large":    {c, crowded(t), api.ErrLarge},
	} {
		if got, l, e := design.Update(x.c, x.d); e != x.want || len(l) > 0 || !alike(got, api.Compiled{}) {
			t.Errorf("%s: %v, %d, want %d", what, l, e, x.want)
		}
	}
	// What is taken over need not be made, so that its error does not arise.
	d := crowded(t)
	kept := api.Compiled{Design: d, Pieces: []api.Piece{{Name: "b"}, {Name: "c"}, {Name: "d"}}}
	got, l, e := design.Update(kept, d)
	if e != api.OK || !alike(l, []string{"a"}) || len(got.Pieces) != 4 || !alike(got.Pieces[3], api.Piece{Name: "b"}) {
		t.Errorf("%v, %d", l, e)
	}
}

// P5.12: a parameter that is set anew makes only pieces anew whose texts use it.
func TestUpdateUses(t *testing.T) {
	random := steadily(62)
	for range 200 {
		d := anyDesign(t, random, number(random, 1, 4), number(random, 0, 4), 0).design
		c, e := design.Compile(d)
		if e != api.OK || len(d.Params) == 0 {
			continue
		}
		name := anyOf(random, d.Params).Name
		set, e := design.Set(d, name, number(random, -9, 30))
		if e != api.OK {
			t.Fatalf("%d", e)
		}
		_, l, e := design.Update(c, set)
		if e != api.OK {
			continue
		}
		for _, piece := range l {
			if !isUsed(d, textsOf(d, piece, looseOf(piece, d)), name) {
				t.Fatalf("%v: %s is made anew for %s", d, piece, name)
			}
		}
		if _, l, e := design.Update(c, d); e != api.OK || len(l) > 0 {
			t.Fatalf("%v: %v, %d", d, l, e)
		}
	}
}

// P5.9: the solids of a compiled design are right ones, also after updates one upon another.
func TestUpdateOften(t *testing.T) {
	random := steadily(63)
	d := parsed(t, rackText)
	c, e := design.Compile(d)
	if e != api.OK {
		t.Fatalf("%d", e)
	}
	for range 60 {
		next, ok := changes(random, d)
		if !ok {
			continue
		}
		d = next
		if c, _, e = design.Update(c, d); e != api.OK {
			t.Fatalf("%v: %d", d, e)
		}
		if want, e := design.Compile(d); e != api.OK || !alike(c, want) {
			t.Fatalf("%v: %v, want %v", d, c, want)
		}
		for _, p := range c.Pieces {
			if e := solid.Check(p.Solid); e != api.OK {
				t.Fatalf("%v: %d", p, e)
			}
		}
	}
}
