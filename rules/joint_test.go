package rules_test

import (
	"testing"

	"spokeshave/api"
	"spokeshave/joint"
)

// jointGiven is arguments for every function of package joint.
type jointGiven struct {
	Joint         api.Joint
	Kind, Member  int
	Gap, Turn     int
	Name, Text    string
	Size          [3]int
	Members       []api.Solid
	Gaps, Solid   api.Solid
	At            api.Setting
	Way           api.Way
	StandardKind  int
	StandardSizes [3]int
}

func TestJoint(t *testing.T) {
	all := functions[jointGiven]{
		"KindName": func(g jointGiven) []any { x, e := joint.KindName(g.Kind); return results(x, e) },
		"KindOf":   func(g jointGiven) []any { x, e := joint.KindOf(g.Name); return results(x, e) },
		"Members":  func(g jointGiven) []any { x, e := joint.Members(g.Kind); return results(x, e) },
		"Verify": func(g jointGiven) []any {
			x, e := joint.Verify(g.Size, g.Members, g.Gaps)
			if e == api.ErrRange || e == api.ErrClash {
				x = [2]int{} // the chapter says what stands there
			}
			return results(x, e)
		},
		"Standard": func(g jointGiven) []any {
			x, e := joint.Standard(g.StandardKind, g.StandardSizes)
			return results(x, e)
		},
		"Put":    func(g jointGiven) []any { x, e := joint.Put(g.Solid, g.At); return results(x, e) },
		"Turned": func(g jointGiven) []any { x, e := joint.Turned(g.Way, g.Turn); return results(x, e) },
		"Parse":  func(g jointGiven) []any { x, e := joint.Parse(g.Text); return results(x, e) },
	}
	addJoints(all)
	checkRules(t, all, goodJoint(t))
}

// addJoints adds the functions that first look at a joint.
func addJoints(all functions[jointGiven]) {
	all["Check"] = func(g jointGiven) []any { return results(joint.Check(g.Joint)) }
	all["Loose"] = func(g jointGiven) []any { x, e := joint.Loose(g.Joint); return results(x, e) }
	all["Keeps"] = func(g jointGiven) []any { x, e := joint.Keeps(g.Joint, g.Member); return results(x, e) }
	all["Gaps"] = func(g jointGiven) []any { x, e := joint.Gaps(g.Joint); return results(x, e) }
	all["Free"] = func(g jointGiven) []any { x, e := joint.Free(g.Joint, g.Member); return results(x, e) }
	all["Area"] = func(g jointGiven) []any { x, e := joint.Area(g.Joint); return results(x, e) }
	all["Proportions"] = func(g jointGiven) []any { x, e := joint.Proportions(g.Joint); return results(x, e) }
	all["Loosen"] = func(g jointGiven) []any { x, e := joint.Loosen(g.Joint, g.Gap); return results(x, e) }
	all["Placed"] = func(g jointGiven) []any { x, e := joint.Placed(g.Joint, g.Member, g.At); return results(x, e) }
	all["Boxed"] = func(g jointGiven) []any { x, e := joint.Boxed(g.Joint, g.At); return results(x, e) }
	all["FreeAt"] = func(g jointGiven) []any { x, e := joint.FreeAt(g.Joint, g.Member, g.At); return results(x, e) }
	all["Print"] = func(g jointGiven) []any { x, e := joint.Print(g.Joint); return results(x, e) }
}

func goodJoint(t *testing.T) jointGiven {
	t.Helper()
	text := "dowels 60 40 30 30 4 6 10 12 2 10 15 30 14"
	j, e := joint.Parse(text)
	if e != api.OK {
		t.Fatalf("parse: %d", e)
	}
	small := api.Joint{Kind: 3, Size: [3]int{60, 40, 30}, Numbers: []int{40, 5, 10, 30, 10, 20}}
	g := jointGiven{
		Joint: j, Kind: 10, Member: 1, Gap: 3, Turn: 30, Name: "spline", Text: text, Size: small.Size,
		At: api.Setting{At: [3]int{5, -6, 7}, Turn: 13}, Way: api.Way{X: 1, Z: -1}, StandardKind: 5, StandardSizes: [3]int{1200, 6000, 1500},
	}
	for member := range 2 {
		s, e := joint.Keeps(small, member)
		if e != api.OK {
			t.Fatalf("keeps: %d", e)
		}
		g.Members, g.Solid = append(g.Members, s), s
	}
	if g.Gaps, e = joint.Gaps(small); e != api.OK {
		t.Fatalf("gaps: %d", e)
	}
	return g
}
