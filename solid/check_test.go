package solid_test

import (
	"math"
	"slices"
	"testing"

	"spokeshave/api"
	"spokeshave/solid"
)

// P1.1: the numbers of a plane.
func TestCheckPlane(t *testing.T) {
	for _, x := range []struct {
		p    api.Plane
		want api.Errno
	}{
		{api.Plane{A: 1}, api.OK},
		{api.Plane{B: -1}, api.OK},
		{api.Plane{A: 8, B: -8, C: 8, D: 10000000}, api.OK},
		{api.Plane{A: -8, B: 8, C: -8, D: -10000000}, api.OK},
		{api.Plane{C: 9}, api.ErrRange},
		{api.Plane{A: -9}, api.ErrRange},
		{api.Plane{B: 9}, api.ErrRange},
		{api.Plane{A: 1, D: 10000001}, api.ErrRange},
		{api.Plane{A: 1, D: -10000001}, api.ErrRange},
		{api.Plane{A: math.MinInt}, api.ErrRange},
		{api.Plane{}, api.ErrZero},
		{api.Plane{D: 5}, api.ErrZero},
		{api.Plane{D: 10000001}, api.ErrRange},
	} {
		if e := solid.CheckPlane(x.p); e != x.want {
			t.Errorf("%v: %d, want %d", x.p, e, x.want)
		}
	}
}

// P1.1: cells, and which of several errors comes first.
func TestCheckCell(t *testing.T) {
	c := cellBox(5)
	open := api.Cell{Planes: c.Planes[1:]}
	sixteen := with(c, slices.Repeat([]api.Plane{{A: 1, B: 1, D: 100}}, 10)...)
	for name, x := range map[string]struct {
		c    api.Cell
		want api.Errno
	}{
		"box":                           {c, api.OK},
		"plane twice":                   {with(c, c.Planes[0]), api.OK},
		"16 planes":                     {sixteen, api.OK},
		"17 planes":                     {with(sixteen, c.Planes[0]), api.ErrLarge},
		"17 wrong planes":               {api.Cell{Planes: make([]api.Plane, 17)}, api.ErrLarge},
		"no plane":                      {api.Cell{}, api.ErrOpen},
		"no plane, not nil":             {api.Cell{Planes: []api.Plane{}}, api.ErrOpen},
		"one plane":                     {api.Cell{Planes: c.Planes[:1]}, api.ErrOpen},
		"normals of a line":             {api.Cell{Planes: []api.Plane{{A: 1}, {A: -1}, {A: 2}, {A: -3}}}, api.ErrOpen},
		"normals of a plane":            {api.Cell{Planes: []api.Plane{{A: 1, D: 1}, {A: -1, D: 1}, {B: 1, D: 1}, {B: -1, D: 1}}}, api.ErrOpen},
		"a side is missing":             {open, api.ErrOpen},
		"a corner":                      {api.Cell{Planes: []api.Plane{{A: 1}, {B: 1}, {C: 1}}}, api.ErrOpen},
		"open by the opposite of a ray": {api.Cell{Planes: []api.Plane{{A: -1}, {B: -1}, {C: -1}}}, api.ErrOpen},
		"open along a slanted ray":      {api.Cell{Planes: []api.Plane{{A: 8, B: -7}, {A: -8, B: 7, D: 1}, {C: 1, D: 1}, {C: -1, D: 1}, {A: 1, D: 1}}}, api.ErrOpen},
		"tetrahedron":                   {api.Cell{Planes: []api.Plane{{A: -1}, {B: -1}, {C: -1}, {A: 1, B: 1, C: 1, D: 1}}}, api.OK},
		"tetrahedron of slanted planes": {api.Cell{Planes: []api.Plane{{A: -8, B: 1, C: 1, D: 9}, {A: 1, B: -8, C: 1, D: 9}, {A: 1, B: 1, C: -8, D: 9}, {A: 1, B: 1, C: 1, D: 9}}}, api.OK},
		"range ahead of zero":           {with(c, api.Plane{A: 9}, api.Plane{}), api.ErrRange},
		"zero ahead of range":           {with(c, api.Plane{}, api.Plane{A: 9}), api.ErrZero},
		"plane ahead of open":           {with(open, api.Plane{}), api.ErrZero},
		"flat":                          {with(c, api.Plane{A: 1, D: -5}), api.ErrEmpty},
		"a line":                        {with(c, api.Plane{A: 1, B: 1, D: -10}), api.ErrEmpty},
		"a tip":                         {with(c, api.Plane{A: 1, B: 1, C: 1, D: -15}), api.ErrEmpty},
		"nothing":                       {with(c, api.Plane{A: 1, D: -6}), api.ErrEmpty},
		"nothing, and open":             {with(open, api.Plane{B: 1, D: -6}), api.ErrOpen},
		"thin":                          {with(c, api.Plane{A: 2, D: -9}), api.OK},
		"the room":                      {cellBox(300000), api.OK},
		"more than the room":            {with(cellBox(300000), api.Plane{A: 1, D: 400000}), api.OK},
		"a corner out of the room":      {cellBox(300001), api.ErrRange},
		"a fraction out of the room":    {api.Cell{Planes: append([]api.Plane{{A: 2, D: 600001}}, cellBox(300000).Planes[:5]...)}, api.ErrRange},
		"empty ahead of the room":       {with(cellBox(300001), api.Plane{A: 1, D: -300001}), api.ErrEmpty},
		"one tip out of the room":       {api.Cell{Planes: []api.Plane{{A: -1}, {B: -1}, {C: -1}, {A: 1, B: 2, C: 2, D: 300001}}}, api.ErrRange},
	} {
		if e := solid.CheckCell(x.c); e != x.want {
			t.Errorf("%s: %d, want %d", name, e, x.want)
		}
	}
}

// P1.1: random planes have the error that the definitions, taken to the letter, give them.
func TestCheckCellLiterally(t *testing.T) {
	s := seed(11)
	count := map[api.Errno]int{}
	for range 3000 {
		var planes []api.Plane
		for range s.number(4, 9) {
			planes = append(planes, api.Plane{A: s.number(-2, 2), B: s.number(-2, 2), C: s.number(-2, 2), D: s.number(-2, 9)})
		}
		e := solid.CheckCell(api.Cell{Planes: planes})
		if want := literalCheck(planes); e != want {
			t.Fatalf("%v: %d, want %d", planes, e, want)
		}
		count[e]++
	}
	for _, e := range []api.Errno{api.OK, api.ErrZero, api.ErrOpen, api.ErrEmpty} {
		if count[e] < 20 {
			t.Errorf("error %d came %d times", e, count[e])
		}
	}
}

// literalCheck is the error of a few planes with numbers in their ranges, and corners in the room.
func literalCheck(planes []api.Plane) api.Errno {
	for _, p := range planes {
		if p.A == 0 && p.B == 0 && p.C == 0 {
			return api.ErrZero
		}
	}
	if openRay(planes) {
		return api.ErrOpen
	}
	if _, inside, _ := literal(planes); !inside {
		return api.ErrEmpty
	}
	return api.OK
}

// openRay reports whether a vector other than 0 has products of at most 0 with the normals of all planes. Normals with numbers up to 2 have cross products with numbers up to 8, so that small vectors are enough.
func openRay(planes []api.Plane) bool {
	for x := -8; x <= 8; x++ {
		for y := -8; y <= 8; y++ {
			for z := -8; z <= 8; z++ {
				stops := slices.ContainsFunc(planes, func(p api.Plane) bool { return p.A*x+p.B*y+p.C*z > 0 })
				if !stops && (x != 0 || y != 0 || z != 0) {
					return true
				}
			}
		}
	}
	return false
}

// P1.1: solids.
func TestCheck(t *testing.T) {
	c := cellBox(5)
	for name, x := range map[string]struct {
		cells []api.Cell
		want  api.Errno
	}{
		"nil":                 {nil, api.OK},
		"empty":               {[]api.Cell{}, api.OK},
		"one":                 {[]api.Cell{c}, api.OK},
		"100 equal cells":     {slices.Repeat([]api.Cell{c}, 100), api.OK},
		"101 cells":           {slices.Repeat([]api.Cell{c}, 101), api.ErrLarge},
		"101 wrong cells":     {make([]api.Cell, 101), api.ErrLarge},
		"the last one":        {[]api.Cell{c, c, {}}, api.ErrOpen},
		"the first wrong one": {[]api.Cell{c, with(c, api.Plane{A: 1, D: -6}), {}}, api.ErrEmpty},
	} {
		if e := solid.Check(api.Solid{Cells: x.cells}); e != x.want {
			t.Errorf("%s: %d, want %d", name, e, x.want)
		}
	}
}
