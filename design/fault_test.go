package design_test

import (
	"math"
	"slices"
	"strings"
	"testing"

	"spokeshave/api"
	"spokeshave/design"
	"spokeshave/solid"
)

// rests returns the rest of each space by the definition.
func (k *known) rests(t *testing.T, solids []api.Solid) ([]api.Solid, []api.Errno) {
	t.Helper()
	var l []api.Solid
	var errors []api.Errno
	for _, box := range k.spaces {
		rest, e := boxSolid(t, box), api.OK
		for _, s := range solids {
			if e == api.OK {
				rest, e = solid.Minus(rest, s)
			}
		}
		l, errors = append(l, rest), append(errors, e)
	}
	return l, errors
}

// faults returns the faults by the definition.
func (k *known) faults(t *testing.T, solids []api.Solid) ([]api.Fault, api.Errno) {
	t.Helper()
	var faults []api.Fault
	for a := range solids {
		for b := range solids {
			if o, is, _ := solid.Clashes(solids[a], solids[b]); a < b && is {
				faults = append(faults, api.Fault{A: a, B: b, Overlap: o})
			}
		}
	}
	rests, errors := k.rests(t, solids)
	for i, s := range k.design.Spaces {
		if s.Kind == 0 {
			if errors[i] != api.OK {
				return nil, errors[i]
			}
			if len(rests[i].Cells) > 0 {
				corners, _ := solid.Corners(rests[i].Cells[0])
				faults = append(faults, api.Fault{Kind: 1, A: i, Overlap: api.Overlap{Corners: corners}})
			}
			continue
		}
		for b := range solids {
			if o, is, _ := solid.Clashes(boxSolid(t, k.spaces[i]), solids[b]); is {
				faults = append(faults, api.Fault{Kind: 2, A: i, B: b, Overlap: o})
			}
		}
	}
	return faults, api.OK
}

// P5.7, P5.11: rests and faults of any designs are those of the definition; faults are accepted, and a design is accepted just if it has none.
func TestFaultsAny(t *testing.T) {
	random := steadily(40)
	kinds := map[int]int{}
	accepted, large := 0, 0
	for range 200 {
		k := anyDesign(t, random, number(random, 0, 4), number(random, 0, 2), number(random, 0, 4))
		d := k.design
		solids, e := design.Solids(d)
		if e != api.OK {
			continue
		}
		rests, errors := k.rests(t, solids)
		for i := range rests {
			if rest, e := design.Rest(d, i); e != errors[i] || e == api.OK && !alike(rest, rests[i]) || e != api.OK && len(rest.Cells) > 0 {
				t.Fatalf("%v: rest of %d: %v, %d, want %v, %d", d, i, rest, e, rests[i], errors[i])
			}
		}
		want, wantError := k.faults(t, solids)
		faults, e := design.Faults(d)
		if e != wantError || !alike(faults, want) {
			t.Fatalf("%v: faults %v, %d, want %v, %d", d, faults, e, want, wantError)
		}
		accept := design.Accept(d)
		switch {
		case e != api.OK:
			large++
			if accept != e {
				t.Fatalf("%v: %d, want %d", d, accept, e)
			}
			continue
		case len(faults) == 0:
			accepted++
			if accept != api.OK {
				t.Fatalf("%v: without faults: %d", d, accept)
			}
		case accept != []api.Errno{api.ErrClash, api.ErrGap, api.ErrClash}[faults[0].Kind]:
			t.Fatalf("%v: %v: %d", d, faults[0], accept)
		}
		for _, f := range faults {
			kinds[f.Kind]++
			if e := design.CheckFault(d, f); e != api.OK {
				t.Fatalf("%v: %v: %d", d, f, e)
			}
		}
	}
	if kinds[0] < 50 || kinds[1] < 50 || kinds[2] < 50 || accepted < 5 {
		t.Errorf("faults by kinds: %v; %d designs accepted, %d too large", kinds, accepted, large)
	}
}

// P5.7: the examples of the chapter.
func TestFaultsShelf(t *testing.T) {
	d := parsed(t, shelfText)
	if l, e := design.Faults(d); e != api.OK || len(l) > 0 || design.Accept(d) != api.OK {
		t.Errorf("the shelf: %v, %d", l, e)
	}
	if rest, e := design.Rest(d, 0); e != api.OK || len(rest.Cells) > 0 {
		t.Errorf("the rest: %v, %d", rest, e)
	}
	moved := parsed(t, strings.Replace(shelfText, "at t, 0, 10000", "at 0, 0, 10000", 1))
	l, e := design.Faults(moved)
	want := []api.Fault{
		{Kind: 0, A: 0, B: 2, Overlap: api.Overlap{Corners: cornersOf(t, api.Box{Z1: 10000, X2: 2000, Y2: 20000, Z2: 12000})}},
		{Kind: 1, A: 0, Overlap: api.Overlap{Corners: cornersOf(t, api.Box{X1: 76000, Z1: 10000, X2: 78000, Y2: 20000, Z2: 12000})}},
	}
	if e != api.OK || !alike(l, want) || design.Accept(moved) != api.ErrClash {
		t.Errorf("the board moved: %v, %d, want %v", l, e, want)
	}
	empty := parsed(t, "design d\nfill 0, 0, 0 size 1, 1, 1\nclear 0, 0, 0 size 1, 1, 1")
	if e := design.Accept(empty); e != api.ErrGap {
		t.Errorf("a space without parts: %d", e)
	}
	intruder := parsed(t, "design d\npart a oak 0 at 0, 0, 0 size 5, 5, 5\nclear 4, 4, 4 size 5, 5, 5\nfill 9, 9, 9 size 1, 1, 1")
	if l, e := design.Faults(intruder); e != api.OK || len(l) != 2 || l[0].Kind != 2 || l[1].Kind != 1 || design.Accept(intruder) != api.ErrClash {
		t.Errorf("a part in a clear space: %v, %d", l, e)
	}
	touching := parsed(t, "design d\npart a oak 0 at 0, 0, 0 size 5, 5, 5\npart b oak 0 at 5, 0, 0 size 5, 5, 5\nclear 0, 0, 5 size 5, 5, 5\nfill 0, 0, 0 size 10, 5, 5")
	if l, e := design.Faults(touching); e != api.OK || len(l) > 0 {
		t.Errorf("parts that touch: %v, %d", l, e)
	}
	if e := design.Accept(api.Design{Name: "empty"}); e != api.OK {
		t.Errorf("nothing: %d", e)
	}
}

func cornersOf(t *testing.T, b api.Box) []api.Corner {
	t.Helper()
	l, e := solid.Corners(boxSolid(t, b).Cells[0])
	if e != api.OK {
		t.Fatalf("%v: %d", b, e)
	}
	return l
}

// joinedText is two boards that fill a bar with the joint between them; the numbers stand for the joint.
const joinedText = `design bar
part a oak 0 at 30, 0, 0 size 100, 40, 30
part b oak 0 at -100, 0, 0 size 130, 40, 30
tie KIND a b turn 0 at 0, 0, 0 size 60, 40, 30 with NUMBERS
fill -100, 0, 0 size 230, 40, 30
clear -100, 40, 0 size 230, 9, 30
`

// P5.11: members of right joints fill what their parts fill, and overlap nowhere; gaps are not filled.
func TestFaultsJoints(t *testing.T) {
	for numbers, want := range map[string][]int{
		"lap 10":                                     nil,
		"bridle 10, 20":                              nil,
		"stopped 30, 0, 10, 30, 10, 20":              nil,
		"stopped 30, 5, 10, 30, 10, 20":              {1},
		"tongue 30, 0, 10, 20":                       nil,
		"tongue 30, 1, 10, 20":                       {1},
		"dovetail 6, 10, 12":                         {},
		"scarf 0, 1, 2":                              nil,
		"fingers 10, 20, 30":                         nil,
		"dowels 30, 4, 6, 10, 12, 0, 10, 15, 30, 14": nil,
		"dowels 30, 4, 6, 10, 12, 2, 10, 15, 30, 14": {1},
	} {
		kind, rest, _ := strings.Cut(numbers, " ")
		d := parsed(t, strings.Replace(strings.Replace(joinedText, "KIND", kind, 1), "NUMBERS", rest, 1))
		l, e := design.Faults(d)
		var kinds []int
		for _, f := range l {
			kinds = append(kinds, f.Kind)
		}
		if e != api.OK || !alike(kinds, want) {
			t.Errorf("%s: %v, %d, want the kinds %v", numbers, l, e, want)
		}
		if e := design.Accept(d); len(want) == 0 && e != api.OK || len(want) > 0 && e != api.ErrGap {
			t.Errorf("%s: %d", numbers, e)
		}
	}
}

// faultyDesign has pieces 0 and 1 that overlap, 2 apart; the space 0 is not filled, 1 not clear, 2 filled, 3 clear.
func faultyDesign(t *testing.T) api.Design {
	t.Helper()
	return parsed(t, `design faulty
part a oak 0 at 0, 0, 0 size 10, 10, 10
part b oak 0 at 5, 5, 5 size 10, 10, 10
part c oak 0 at 50, 0, 0 size 10, 10, 10
fill -5, -5, -5 size 10, 10, 10
clear 8, 8, 8 size 1, 1, 9
fill 1, 1, 1 size 1, 1, 1
clear 90, 0, 0 size 1, 1, 1
`)
}

// P5.7: right witnesses of faults, and wrong ones.
func TestCheckFault(t *testing.T) {
	d := faultyDesign(t)
	l, e := design.Faults(d)
	if e != api.OK || len(l) != 4 {
		t.Fatalf("%v, %d", l, e)
	}
	pair, gap, first, second := l[0], l[1], l[2], l[3]
	rest, _ := design.Rest(d, 0)
	last := len(rest.Cells) - 1
	corners, _ := solid.Corners(rest.Cells[last])
	// A few points around a common place are a witness, too.
	points := []api.Corner{{X: 16, Y: 16, Z: 16, Den: 2}, {X: 9, Y: 9, Z: 9, Den: 1}, {X: 27, Y: 27, Z: 27, Den: 3}}
	with := func(f api.Fault, changes ...func(f *api.Fault)) api.Fault {
		f.Overlap.Corners = slices.Clone(f.Overlap.Corners)
		for _, change := range changes {
			change(&f)
		}
		return f
	}
	for what, x := range map[string]struct {
		f    api.Fault
		want api.Errno
	}{
		"pieces":                   {pair, api.OK},
		"pieces, by other points":  {with(pair, func(f *api.Fault) { f.Overlap.Corners = points }), api.OK},
		"pieces, reversed":         {with(pair, func(f *api.Fault) { f.A, f.B = 1, 0 }), api.ErrProof},
		"a piece and itself":       {with(pair, func(f *api.Fault) { f.B = 0 }), api.ErrProof},
		"pieces apart":             {with(pair, func(f *api.Fault) { f.B = 2 }), api.ErrProof},
		"no piece":                 {with(pair, func(f *api.Fault) { f.B = 3 }), api.ErrProof},
		"a piece below":            {with(pair, func(f *api.Fault) { f.A = -1 }), api.ErrProof},
		"the greatest piece":       {with(pair, func(f *api.Fault) { f.B = math.MaxInt }), api.ErrProof},
		"no cell":                  {with(pair, func(f *api.Fault) { f.Overlap.A = 1 }), api.ErrProof},
		"no points":                {with(pair, func(f *api.Fault) { f.Overlap.Corners = nil }), api.ErrProof},
		"points of no denominator": {with(pair, func(f *api.Fault) { f.Overlap.Corners[0].Den = 0 }), api.ErrProof},
		"a point beyond":           {with(pair, func(f *api.Fault) { f.Overlap.Corners[0].X = 11 }), api.ErrProof},
		"too many points":          {with(pair, func(f *api.Fault) { f.Overlap.Corners = slices.Repeat(points, 334) }), api.ErrProof},
		"a gap":                    {gap, api.OK},
		"another cell of the gap":  {with(gap, func(f *api.Fault) { f.Overlap = api.Overlap{A: last, Corners: corners} }), api.OK},
		"a gap of the wrong cell":  {with(gap, func(f *api.Fault) { f.Overlap.A = last }), api.ErrProof},
		"a gap of no cell":         {with(gap, func(f *api.Fault) { f.Overlap.A = last + 1 }), api.ErrProof},
		"a gap of a cell below":    {with(gap, func(f *api.Fault) { f.Overlap.A = -1 }), api.ErrProof},
		"a gap with B":             {with(gap, func(f *api.Fault) { f.B = 1 }), api.ErrProof},
		"a gap with a second cell": {with(gap, func(f *api.Fault) { f.Overlap.B = 1 }), api.ErrProof},
		"a gap without corners":    {with(gap, func(f *api.Fault) { f.Overlap.Corners = nil }), api.ErrProof},
		"a gap with less corners":  {with(gap, func(f *api.Fault) { f.Overlap.Corners = f.Overlap.Corners[1:] }), api.ErrProof},
		"a gap with other corners": {with(gap, func(f *api.Fault) { f.Overlap.Corners[7].X++ }), api.ErrProof},
		"a gap that is filled":     {with(gap, func(f *api.Fault) { f.A = 2 }), api.ErrProof},
		"a gap of a clear space":   {with(gap, func(f *api.Fault) { f.A, f.Overlap.Corners = 3, cornersOf(t, api.Box{X1: 90, X2: 91, Y2: 1, Z2: 1}) }), api.ErrProof},
		"a gap of no space":        {with(gap, func(f *api.Fault) { f.A = 4 }), api.ErrMissing},
		"a gap of a space below":   {with(gap, func(f *api.Fault) { f.A = -1 }), api.ErrMissing},
		"an intruder":              {first, api.OK},
		"the other intruder":       {second, api.OK},
		"an intruder that is not":  {with(first, func(f *api.Fault) { f.B = 2 }), api.ErrProof},
		"an intruder of no piece":  {with(first, func(f *api.Fault) { f.B = 3 }), api.ErrProof},
		"an intruder below":        {with(first, func(f *api.Fault) { f.B = -1 }), api.ErrProof},
		"an intruder of the clear": {with(first, func(f *api.Fault) { f.A = 3 }), api.ErrProof},
		"an intruder of the filled": {with(first, func(f *api.Fault) {
			f.A, f.B, f.Overlap.Corners = 2, 0, cornersOf(t, api.Box{X1: 1, Y1: 1, Z1: 1, X2: 2, Y2: 2, Z2: 2})
		}), api.ErrProof},
		"an intruder of no space":   {with(first, func(f *api.Fault) { f.A = 4 }), api.ErrProof},
		"an intruder of a negative": {with(first, func(f *api.Fault) { f.A = -1 }), api.ErrProof},
		"another intruder's points": {with(first, func(f *api.Fault) { f.Overlap.Corners = second.Overlap.Corners[1:2] }), api.ErrProof},
		"a kind above":              {with(pair, func(f *api.Fault) { f.Kind = 3 }), api.ErrProof},
		"a kind below":              {with(pair, func(f *api.Fault) { f.Kind = -1 }), api.ErrProof},
		"nothing":                   {api.Fault{}, api.ErrProof},
	} {
		if e := design.CheckFault(d, x.f); e != x.want {
			t.Errorf("%s: %v: %d, want %d", what, x.f, e, x.want)
		}
	}
	wrong := changed(d, func(d *api.Design) { d.Parts[0].Grain = 3 })
	if e := design.CheckFault(wrong, pair); e != api.ErrRange {
		t.Errorf("a fault of a wrong design: %d", e)
	}
}

// P5.7: a rest that is too large on the way, in a space that has to be filled and in one that has to be clear.
func TestRestLarge(t *testing.T) {
	text := "design d\n"
	for i := range 30 {
		at := string(rune('0'+i/10)) + string(rune('0'+i%10))
		at = strings.TrimPrefix(at, "0")
		text += "part p" + at + " oak 0 at 3 * " + at + " + 1, 3 * " + at + " + 1, 3 * " + at + " + 1 size 1, 1, 1\n"
	}
	text += "clear 0, 0, 0 size 100, 100, 100\nfill 0, 0, 0 size 3, 3, 3\nfill 0, 0, 0 size 100, 100, 100\n"
	d := parsed(t, text)
	for space, want := range []api.Errno{api.ErrLarge, api.OK, api.ErrLarge, api.ErrMissing} {
		if rest, e := design.Rest(d, space); e != want || e != api.OK && len(rest.Cells) > 0 {
			t.Errorf("rest of %d: %d, want %d", space, e, want)
		}
		// The error of Rest comes ahead of ErrProof, also for a space that has to be clear.
		if want == api.OK {
			want = api.ErrProof
		}
		if e := design.CheckFault(d, api.Fault{Kind: 1, A: space}); e != want {
			t.Errorf("a fault of %d: %d, want %d", space, e, want)
		}
	}
	if l, e := design.Faults(d); e != api.ErrLarge || len(l) > 0 {
		t.Errorf("%v, %d", l, e)
	}
	if e := design.Accept(d); e != api.ErrLarge {
		t.Errorf("%d", e)
	}
	// Only the rests of spaces that have to be filled count for Faults.
	d.Spaces = d.Spaces[:2]
	if l, e := design.Faults(d); e != api.OK || len(l) != 31 {
		t.Errorf("%v, %d", l, e)
	}
}

// P5.11: the pieces of accepted designs overlap nowhere, and cover what has to be filled.
func TestAccepted(t *testing.T) {
	scarf := strings.Replace(strings.Replace(joinedText, "KIND", "scarf", 1), "NUMBERS", "0, 1, 2", 1)
	for text, filled := range map[string]api.Box{
		shelfText: {Z1: 10000, X2: 80000, Y2: 20000, Z2: 12000},
		scarf:     {X1: -100, X2: 130, Y2: 40, Z2: 30},
	} {
		d := parsed(t, text)
		solids, e := design.Solids(d)
		if e != api.OK || design.Accept(d) != api.OK {
			t.Fatalf("%s: %d, %d", d.Name, e, design.Accept(d))
		}
		var together api.Solid
		for i, s := range solids {
			together.Cells = append(together.Cells, s.Cells...)
			for _, other := range solids[i+1:] {
				if _, is, e := solid.Clashes(s, other); is || e != api.OK {
					t.Errorf("%s: %t, %d", d.Name, is, e)
				}
			}
		}
		if covers, e := solid.Covers(together, boxSolid(t, filled)); !covers || e != api.OK {
			t.Errorf("%s: %t, %d", d.Name, covers, e)
		}
	}
}
