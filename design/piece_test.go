package design_test

import (
	"math"
	"slices"
	"strconv"
	"testing"

	"spokeshave/api"
	"spokeshave/design"
	"spokeshave/joint"
	"spokeshave/solid"
)

// pieceNames returns the names of the pieces by the definition: the parts, then tie by tie the loose members.
func (k *known) pieceNames() []string {
	var names []string
	for _, r := range k.design.Parts {
		names = append(names, r.Name)
	}
	for i, j := range k.joints {
		loose, _ := joint.Loose(j)
		for n := range loose {
			names = append(names, "j"+strconv.Itoa(i)+"-"+strconv.Itoa(n))
		}
	}
	return names
}

// solidsOf returns the solids by the definition, with the exported functions of chapters 1 and 3.
func (k *known) solidsOf(t *testing.T) ([]api.Solid, api.Errno) {
	t.Helper()
	var solids []api.Solid
	for i, r := range k.design.Parts {
		var boxes, kept api.Solid
		for n, tie := range k.design.Ties {
			member := slices.Index(tie.Parts, r.Name)
			if member < 0 {
				continue
			}
			boxes.Cells = append(boxes.Cells, boxSolid(t, k.boxes[n]).Cells...)
			s, e := joint.Placed(k.joints[n], member, k.settings[n])
			if e != api.OK {
				t.Fatalf("placed: %d", e)
			}
			kept.Cells = append(kept.Cells, s.Cells...)
		}
		s, e := solid.Minus(boxSolid(t, k.blanks[i]), boxes)
		if e != api.OK {
			return nil, e
		}
		s.Cells = append(s.Cells, kept.Cells...)
		if len(s.Cells) > api.MaxCells {
			return nil, api.ErrLarge
		}
		solids = append(solids, s)
	}
	for n, j := range k.joints {
		loose, _ := joint.Loose(j)
		for i := range loose {
			s, e := joint.Placed(j, len(k.design.Ties[n].Parts)+i, k.settings[n])
			if e != api.OK {
				t.Fatalf("placed: %d", e)
			}
			solids = append(solids, s)
		}
	}
	return solids, api.OK
}

// P5.5, P5.6: pieces, blanks, ties and solids of any designs.
func TestPiecesAny(t *testing.T) {
	random := steadily(30)
	large, joints := 0, 0
	for range 250 {
		k := anyDesign(t, random, number(random, 0, 5), number(random, 0, 9), 0)
		d := k.design
		joints += len(k.joints)
		names, e := design.Pieces(d)
		if e != api.OK || !alike(names, k.pieceNames()) {
			t.Fatalf("%v: pieces %v, %d, want %v", d, names, e, k.pieceNames())
		}
		for i := range k.joints {
			if j, at, e := design.Tie(d, i); e != api.OK || !alike(j, k.joints[i]) || at != k.settings[i] {
				t.Fatalf("%v: tie %d: %v, %v, %d, want %v, %v", d, i, j, at, e, k.joints[i], k.settings[i])
			}
		}
		for _, i := range []int{-1, len(k.joints), math.MinInt, math.MaxInt} {
			if j, at, e := design.Tie(d, i); e != api.ErrMissing || !alike(j, api.Joint{}) || at != (api.Setting{}) {
				t.Fatalf("tie %d: %v, %v, %d", i, j, at, e)
			}
		}
		want, wantError := k.solidsOf(t)
		solids, e := design.Solids(d)
		if e != wantError || !alike(solids, want) {
			t.Fatalf("%v: solids %v, %d, want %v, %d", d, solids, e, want, wantError)
		}
		if e != api.OK {
			large++
			continue
		}
		for i, name := range names {
			if s, e := design.Solid(d, name); e != api.OK || !alike(s, want[i]) {
				t.Fatalf("%v: solid of %s: %v, %d, want %v", d, name, s, e, want[i])
			}
			blank := api.Box{}
			if i < len(k.blanks) {
				blank = k.blanks[i]
			} else {
				blank, _ = solid.Bounds(want[i])
			}
			if b, e := design.Blank(d, name); e != api.OK || b != blank {
				t.Fatalf("%v: blank of %s: %v, %d, want %v", d, name, b, e, blank)
			}
		}
	}
	if joints < 200 {
		t.Errorf("only %d joints, and %d designs that are too large", joints, large)
	}
}

// P5.6: the points of a part are those of its blank that lie in no box of its joints, and what it keeps.
func TestSolidPoints(t *testing.T) {
	random := steadily(31)
	inside := 0
	for range 60 {
		k := anyDesign(t, random, number(random, 2, 4), number(random, 1, 4), 0)
		solids, e := design.Solids(k.design)
		if e != api.OK {
			continue
		}
		for i, r := range k.design.Parts {
			for range 100 {
				p := api.Corner{X: 11*number(random, -30, 60) + 5, Y: 11*number(random, -30, 60) + 3, Z: 11*number(random, -30, 60) + 2, Den: 11}
				want, _ := solid.Where(boxSolid(t, k.blanks[i]), p)
				for n, tie := range k.design.Ties {
					member := slices.Index(tie.Parts, r.Name)
					if member < 0 {
						continue
					}
					if in, _ := solid.Where(boxSolid(t, k.boxes[n]), p); in == 1 {
						kept, _ := joint.Placed(k.joints[n], member, k.settings[n])
						want, _ = solid.Where(kept, p)
					}
				}
				if is, e := solid.Where(solids[i], p); e != api.OK || is != want {
					t.Fatalf("%v: %v in %s: %d, %d, want %d", k.design, p, r.Name, is, e, want)
				}
				inside += max(0, want)
			}
		}
	}
	if inside < 200 {
		t.Errorf("only %d points inside", inside)
	}
}

// P5.6: the first example of the chapter, and pieces of the rack.
func TestPieces(t *testing.T) {
	shelf, rack := parsed(t, shelfText), parsed(t, rackText)
	if l, e := design.Pieces(rack); e != api.OK || !alike(l, []string{"a", "b", "c", "d", "j0-0", "j0-1", "j2-0"}) {
		t.Errorf("%v, %d", l, e)
	}
	for name, want := range map[string]api.Box{
		"left":  {X2: 2000, Y2: 20000, Z2: 30000},
		"right": {X1: 78000, X2: 80000, Y2: 20000, Z2: 30000},
		"board": {X1: 2000, Z1: 10000, X2: 78000, Y2: 20000, Z2: 12000},
	} {
		if b, e := design.Blank(shelf, name); e != api.OK || b != want {
			t.Errorf("blank of %s: %v, %d, want %v", name, b, e, want)
		}
		if s, e := design.Solid(shelf, name); e != api.OK || !alike(s, boxSolid(t, want)) {
			t.Errorf("solid of %s: %v, %d", name, s, e)
		}
	}
	// The dowel 0 is around y = 10, z = 15 from x = 30 - 12 to 30 + 10, and reaches 4 to all sides.
	if b, e := design.Blank(rack, "j0-0"); e != api.OK || b != (api.Box{X1: 18, Y1: 6, Z1: 11, X2: 40, Y2: 14, Z2: 19}) {
		t.Errorf("blank of a dowel: %v, %d", b, e)
	}
	for _, name := range []string{"", "j0-2", "j1-0", "j00-0", "j0-00", "j3-0", "u", "ab", "shelf"} {
		if b, e := design.Blank(rack, name); e != api.ErrMissing || b != (api.Box{}) {
			t.Errorf("blank of %q: %v, %d", name, b, e)
		}
		if s, e := design.Solid(rack, name); e != api.ErrMissing || len(s.Cells) > 0 {
			t.Errorf("solid of %q: %v, %d", name, s, e)
		}
	}
	if l, e := design.Pieces(api.Design{Name: "empty"}); e != api.OK || len(l) > 0 {
		t.Errorf("%v, %d", l, e)
	}
	if l, e := design.Solids(api.Design{Name: "empty"}); e != api.OK || len(l) > 0 {
		t.Errorf("%v, %d", l, e)
	}
}

// crowded returns a design whose parts "b" and "c" have more cells than a solid may have, "b" because of what is left of its blank, "c" because of what it keeps.
func crowded(t *testing.T) api.Design {
	t.Helper()
	text := "design crowded\n"
	for _, name := range []string{"a", "c", "d"} {
		text += "part " + name + " oak 0 at -9000, 0, 0 size 5, 5, 5\n"
	}
	text += "part b oak 0 at 0, 0, 0 size 1000, 1000, 1000\n"
	for i := range 20 {
		at := strconv.Itoa(40 * i)
		text += "tie lap a b turn 0 at " + at + ", " + at + ", " + at + " size 10, 10, 10 with 5\n"
	}
	for i := range 9 {
		at := strconv.Itoa(100 * i)
		text += "tie fingers d c turn 0 at 0, 3000, " + at + " size 10, 25, 10 with 1, 2, 3, 4, 5, 6, 7, 8, 9, 10, 11, 12, 13, 14, 15, 16, 17, 18, 19, 20, 21, 22, 23, 24\n"
	}
	return parsed(t, text)
}

// P5.6: solids that are too large; the error is that of the first piece that has one.
func TestSolidsLarge(t *testing.T) {
	d := crowded(t)
	if e := design.Resolve(d); e != api.OK {
		t.Fatalf("%d", e)
	}
	for _, name := range []string{"b", "c"} {
		if s, e := design.Solid(d, name); e != api.ErrLarge || len(s.Cells) > 0 {
			t.Errorf("%s: %d cells, %d", name, len(s.Cells), e)
		}
	}
	if s, e := design.Solid(d, "a"); e != api.OK || len(s.Cells) != 21 {
		t.Errorf("a: %d cells, %d", len(s.Cells), e)
	}
	if b, e := design.Blank(d, "b"); e != api.OK || b != (api.Box{X2: 1000, Y2: 1000, Z2: 1000}) {
		t.Errorf("the blank of b: %v, %d", b, e)
	}
	if _, _, e := design.Tie(d, 3); e != api.OK {
		t.Errorf("a tie: %d", e)
	}
	if l, e := design.CuttingList(d); e != api.OK || len(l) != 2 {
		t.Errorf("the cutting list: %v, %d", l, e)
	}
	d.Spaces = []api.Space{{At: three("0"), Size: three("1")}}
	if l, e := design.Solids(d); e != api.ErrLarge || len(l) > 0 {
		t.Errorf("solids: %d", e)
	}
	if s, e := design.Rest(d, 0); e != api.ErrLarge || len(s.Cells) > 0 {
		t.Errorf("rest: %d", e)
	}
	if s, e := design.Rest(d, 1); e != api.ErrMissing || len(s.Cells) > 0 {
		t.Errorf("no space: %d", e)
	}
	if l, e := design.Faults(d); e != api.ErrLarge || len(l) > 0 {
		t.Errorf("faults: %d", e)
	}
	if e := design.Accept(d); e != api.ErrLarge {
		t.Errorf("accept: %d", e)
	}
	if e := design.CheckFault(d, api.Fault{Kind: 1, A: 9}); e != api.ErrLarge {
		t.Errorf("a fault: %d", e)
	}
	if c, e := design.Compile(d); e != api.ErrLarge || !alike(c, api.Compiled{}) {
		t.Errorf("compile: %d", e)
	}
	if c, l, e := design.Update(api.Compiled{Design: api.Design{Name: "c"}}, d); e != api.ErrLarge || !alike(c, api.Compiled{}) || len(l) > 0 {
		t.Errorf("update: %v, %d", l, e)
	}
}

// P5.6: a part that keeps more than its blank has, and one whose blank lies in the boxes of its joints.
func TestSolidBeyond(t *testing.T) {
	text := "design d\npart a oak 0 at 0, 0, 0 size 10, 10, 10\npart b oak 0 at 900, 0, 0 size 10, 10, 10\ntie lap a b turn 0 at 0, 0, 0 size 20, 10, 10 with 4\n"
	for name, want := range map[string][]api.Box{
		"a": {{Z1: 4, X2: 20, Y2: 10, Z2: 10}},
		"b": {{X1: 900, X2: 910, Y2: 10, Z2: 10}, {X2: 20, Y2: 10, Z2: 4}},
	} {
		var whole api.Solid
		for _, b := range want {
			whole.Cells = append(whole.Cells, boxSolid(t, b).Cells...)
		}
		if s, e := design.Solid(parsed(t, text), name); e != api.OK || !alike(s, whole) {
			t.Errorf("%s: %v, %d, want %v", name, s, e, whole)
		}
	}
}
