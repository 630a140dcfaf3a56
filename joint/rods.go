package joint

import "spokeshave/api"

// rods is the dowels of a joint. They reach by a into A and by b into B, on both sides of x = m; their holes are longer by a gap at both ends. Across, they are octagons around their middles.
type rods struct {
	m, r, e, a, b, gap int
	at                 []middle
}

// middle is where a dowel is across X.
type middle struct{ y, z int }

// rodsOf returns the dowels of a joint; behind the six other numbers there are two for each dowel.
func rodsOf(j api.Joint) rods {
	n := j.Numbers
	d := rods{m: n[0], r: n[1], e: n[2], a: n[3], b: n[4], gap: n[5]}
	for i := 6; i < len(n); i += 2 {
		d.at = append(d.at, middle{n[i], n[i+1]})
	}
	return d
}

// fit reports whether dowels lie in a box and apart from each other.
func (d rods) fit(size [3]int) bool {
	l, w, t := size[0], size[1], size[2]
	if !ascend(2*d.r, d.r, d.e) || d.a <= 0 || d.b <= 0 || d.gap < 0 || d.b+d.gap >= d.m || d.m+d.a+d.gap >= l {
		return false
	}
	end := 0
	for _, c := range d.at {
		if c.y-d.r <= end || c.z-d.r <= 0 || c.z+d.r >= t {
			return false
		}
		end = c.y + d.r
	}
	return end < w
}

func (d rods) kept(cell maker, width, member int) []api.Cell {
	switch member {
	case memberA:
		holes := span{axisX, d.m, d.m + d.a + d.gap}
		return append([]api.Cell{cell(holes.above())}, d.pierced(cell.with(inside(holes)...), width)...)
	case memberB:
		holes := span{axisX, d.m - d.b - d.gap, d.m}
		return append([]api.Cell{cell(holes.below())}, d.pierced(cell.with(inside(holes)...), width)...)
	}
	in := cell.with(d.hole(member - memberC)...)
	return []api.Cell{in(inside(span{axisX, d.m - d.b, d.m + d.a})...)}
}

func (d rods) gaps(cell maker) []api.Cell {
	var cells []api.Cell
	for i := range len(d.at) {
		in := cell.with(d.hole(i)...)
		a, b := d.m+d.a, d.m-d.b
		cells = append(cells, in(inside(span{axisX, a, a + d.gap})...), in(inside(span{axisX, b - d.gap, b})...))
	}
	return cells
}

// pierced returns what is around all holes, strip by strip; a strip ends where its dowel ends, the last one at the side of the box.
func (d rods) pierced(cell maker, width int) []api.Cell {
	var cells []api.Cell
	begin := 0
	for i := range len(d.at) {
		end := d.at[i].y + d.r
		if i == len(d.at)-1 {
			end = width
		}
		cells = append(cells, d.strip(cell.with(inside(span{axisY, begin, end})...), i)...)
		begin = end
	}
	return cells
}

// strip returns what is around the hole of a dowel; behind the hole only the last strip has something.
func (d rods) strip(cell maker, i int) []api.Cell {
	y, z := d.sides(i)
	cells := []api.Cell{cell(y.below())}
	if i == len(d.at)-1 {
		cells = append(cells, cell(y.above()))
	}
	cell = cell.with(inside(y)...)
	cells = append(cells, around(cell, z)...)
	for _, edge := range d.edges(i) {
		cells = append(cells, cell.with(inside(z)...)(opposite(edge)))
	}
	return cells
}

// hole keeps what lies in the hole of a dowel.
func (d rods) hole(i int) []api.Plane {
	y, z := d.sides(i)
	return append(inside(y, z), d.edges(i)...)
}

// sides returns the spans of a dowel.
func (d rods) sides(i int) (y, z span) {
	c := d.at[i]
	return span{axisY, c.y - d.r, c.y + d.r}, span{axisZ, c.z - d.r, c.z + d.r}
}

// edges returns the slanted sides of a dowel.
func (d rods) edges(i int) []api.Plane {
	c := d.at[i]
	return []api.Plane{
		{B: 1, C: 1, D: c.y + c.z + d.e},
		{B: 1, C: -1, D: c.y - c.z + d.e},
		{B: -1, C: 1, D: c.z - c.y + d.e},
		{B: -1, C: -1, D: d.e - c.y - c.z},
	}
}
