package cutting_test

import (
	"math/big"
	"math/rand/v2"
	"reflect"
	"slices"
	"strconv"

	"spokeshave/api"
)

// plain returns a board of oak without defects.
func plain(name string, length, width int) api.Board {
	return api.Board{Name: name, Species: "oak", Length: length, Width: width, Thick: 20, Moisture: 80}
}

// with returns a board with further defects.
func with(b api.Board, defects ...api.Rect) api.Board {
	b.Defects = slices.Concat(b.Defects, defects)
	return b
}

// wanted returns a blank of oak.
func wanted(name string, length, width, count int) api.Blank {
	return api.Blank{Name: name, Species: "oak", Length: length, Width: width, Thick: 20, Count: count}
}

// job returns a job without a trim.
func job(stock []api.Board, blanks ...api.Blank) api.Job {
	return api.Job{Stock: stock, Blanks: blanks}
}

// boards returns equal boards, named b0, b1, ..
func boards(count, length, width int) []api.Board {
	var l []api.Board
	for i := range count {
		l = append(l, plain("b"+strconv.Itoa(i), length, width))
	}
	return l
}

// The regions of layouts.
func piece(blank int) api.Cut          { return api.Cut{Blank: blank} }
func waste() api.Cut                   { return api.Cut{Blank: -1} }
func across(at, low, high int) api.Cut { return api.Cut{Across: true, At: at, Low: low, High: high} }
func along(at, low, high int) api.Cut  { return api.Cut{At: at, Low: low, High: high} }

func layout(board int, cuts ...api.Cut) api.Layout { return api.Layout{Board: board, Cuts: cuts} }

// steadily returns numbers that look random, but are the same in each run.
func steadily(row uint64) *rand.Rand { return rand.New(rand.NewPCG(row, 8)) }

// anyBoard returns a small board of one of two species, with some defects.
func anyBoard(random *rand.Rand, number int) api.Board {
	b := plain("b"+strconv.Itoa(number), 1+random.IntN(30), 1+random.IntN(16))
	b.Thick, b.Cut = 19+random.IntN(2), random.IntN(2)
	if random.IntN(4) == 0 {
		b.Species = "ash"
	}
	for range random.IntN(5) {
		x, y := random.IntN(b.Length), random.IntN(b.Width)
		b.Defects = append(b.Defects, api.Rect{X1: x, Y1: y, X2: x + 1 + random.IntN(min(4, b.Length-x)), Y2: y + 1 + random.IntN(min(4, b.Width-y))})
	}
	return b
}

func anyTrim(random *rand.Rand) api.Trim {
	return api.Trim{Kerf: random.IntN(4), Ends: random.IntN(3), Sides: random.IntN(2)}
}

// anyJob returns a job of some small boards and blanks, for which there may be no plan.
func anyJob(random *rand.Rand) api.Job {
	j := api.Job{Trim: anyTrim(random)}
	for i := range random.IntN(5) {
		j.Stock = append(j.Stock, anyBoard(random, i))
	}
	for i := range random.IntN(5) {
		blank := wanted("p"+strconv.Itoa(i), 1+random.IntN(9), 1+random.IntN(6), 1+random.IntN(3))
		blank.Thick = 18 + random.IntN(3)
		if random.IntN(5) == 0 {
			blank.Species = "ash"
		}
		if i > 0 && random.IntN(3) == 0 { // the same area
			blank.Length, blank.Width = j.Blanks[0].Width, j.Blanks[0].Length
		}
		j.Blanks = append(j.Blanks, blank)
	}
	return j
}

// node is a region in the tree of a layout, before it has a number.
type node struct {
	at        api.Rect
	cut       api.Cut
	low, high *node
}

// grow cuts a region some times.
func grow(random *rand.Rand, n *node, kerf, depth int) {
	n.cut = waste()
	isAcross := random.IntN(2) == 0
	size := n.at.Y2 - n.at.Y1
	if isAcross {
		size = n.at.X2 - n.at.X1
	}
	if depth == 0 || size < 2 || random.IntN(5) == 0 {
		return
	}
	n.cut = api.Cut{Across: isAcross, At: 1 + random.IntN(size-1)}
	low, high := halvesBy(n.at, n.cut, kerf)
	n.low, n.high = &node{at: low}, &node{at: high}
	grow(random, n.low, kerf, depth-1)
	grow(random, n.high, kerf, depth-1)
}

// numbered returns the regions of a tree; it is left to chance which one of those that may be next has the next number.
func numbered(random *rand.Rand, root *node) []api.Cut {
	cuts := []api.Cut{root.cut}
	open := []*node{root}
	at := []int{0}
	for len(open) > 0 {
		i := random.IntN(len(open))
		n, number := open[i], at[i]
		open, at = slices.Delete(open, i, i+1), slices.Delete(at, i, i+1)
		if n.low == nil {
			continue
		}
		low, high := len(cuts), len(cuts)+1
		if random.IntN(2) == 0 {
			low, high = high, low
		}
		cuts = append(cuts, api.Cut{}, api.Cut{})
		cuts[number].Low, cuts[number].High = low, high
		cuts[low], cuts[high] = n.low.cut, n.high.cut
		open, at = append(open, n.low, n.high), append(at, low, high)
	}
	return cuts
}

// anyLayout returns a layout without pieces.
func anyLayout(random *rand.Rand, b api.Board, t api.Trim, board int) api.Layout {
	root := &node{at: usableBy(b, t)}
	grow(random, root, t.Kerf, 5)
	return api.Layout{Board: board, Cuts: numbered(random, root)}
}

// anyPlan returns a job with a right plan: some sound leaves of random layouts are the pieces that are asked for.
func anyPlan(random *rand.Rand) (api.Job, []api.Layout) {
	j := api.Job{Trim: anyTrim(random)}
	for i := range 1 + random.IntN(4) {
		j.Stock = append(j.Stock, anyBoard(random, i))
	}
	var plan []api.Layout
	for _, i := range random.Perm(len(j.Stock)) {
		if random.IntN(4) == 0 {
			continue
		}
		b := j.Stock[i]
		l := anyLayout(random, b, j.Trim, i)
		for n, r := range rectsBy(b, j.Trim, l) {
			if l.Cuts[n].Low == 0 && r != (api.Rect{}) && soundBy(b, r) && random.IntN(3) > 0 {
				l.Cuts[n].Blank = blankFor(&j, b, r)
			}
		}
		plan = append(plan, l)
	}
	return j, plan
}

// blankFor returns the number of a blank of which one piece more is asked for, or -1 if there are too many blanks.
func blankFor(j *api.Job, b api.Board, r api.Rect) int {
	for i := range j.Blanks {
		blank := &j.Blanks[i]
		if blank.Species == b.Species && b.Thick >= blank.Thick && blank.Length == r.X2-r.X1 && blank.Width == r.Y2-r.Y1 {
			blank.Count++
			return i
		}
	}
	if len(j.Blanks) == api.MaxBlanks {
		return -1
	}
	blank := wanted("p"+strconv.Itoa(len(j.Blanks)), r.X2-r.X1, r.Y2-r.Y1, 1)
	blank.Species, blank.Thick = b.Species, b.Thick
	j.Blanks = append(j.Blanks, blank)
	return len(j.Blanks) - 1
}

// The definitions of the chapter, taken to the letter.

func usableBy(b api.Board, t api.Trim) api.Rect {
	if b.Length-2*t.Ends < 1 || b.Width-2*t.Sides < 1 {
		return api.Rect{}
	}
	return api.Rect{X1: t.Ends, Y1: t.Sides, X2: b.Length - t.Ends, Y2: b.Width - t.Sides}
}

func halvesBy(r api.Rect, c api.Cut, kerf int) (low, high api.Rect) {
	if c.Across {
		low = api.Rect{X1: r.X1, Y1: r.Y1, X2: r.X1 + c.At, Y2: r.Y2}
		if r.X1+c.At+kerf < r.X2 {
			high = api.Rect{X1: r.X1 + c.At + kerf, Y1: r.Y1, X2: r.X2, Y2: r.Y2}
		}
		return low, high
	}
	low = api.Rect{X1: r.X1, Y1: r.Y1, X2: r.X2, Y2: r.Y1 + c.At}
	if r.Y1+c.At+kerf < r.Y2 {
		high = api.Rect{X1: r.X1, Y1: r.Y1 + c.At + kerf, X2: r.X2, Y2: r.Y2}
	}
	return low, high
}

func rectsBy(b api.Board, t api.Trim, l api.Layout) []api.Rect {
	rects := make([]api.Rect, len(l.Cuts))
	var fill func(n int, r api.Rect)
	fill = func(n int, r api.Rect) {
		rects[n] = r
		if c := l.Cuts[n]; c.Low != 0 {
			low, high := halvesBy(r, c, t.Kerf)
			fill(c.Low, low)
			fill(c.High, high)
		}
	}
	fill(0, usableBy(b, t))
	return rects
}

// isIn reports whether the square of size 1 that begins at a point lies in a rectangle.
func isIn(r api.Rect, x, y int) bool { return r.X1 <= x && x < r.X2 && r.Y1 <= y && y < r.Y2 }

func isDefective(b api.Board, x, y int) bool {
	return slices.ContainsFunc(b.Defects, func(d api.Rect) bool { return isIn(d, x, y) })
}

// soundBy asks square by square.
func soundBy(b api.Board, r api.Rect) bool {
	for x := r.X1; x < r.X2; x++ {
		for y := r.Y1; y < r.Y2; y++ {
			if isDefective(b, x, y) {
				return false
			}
		}
	}
	return true
}

// spans reports whether two rectangles have inside in common.
func spans(a, b api.Rect) bool {
	return a.X1 < b.X2 && b.X1 < a.X2 && a.Y1 < b.Y2 && b.Y1 < a.Y2
}

func size(r api.Rect) int { return (r.X2 - r.X1) * (r.Y2 - r.Y1) }

// ceil returns a fraction that is not negative, rounded up.
func ceil(x *big.Rat) int {
	n := new(big.Int).Add(x.Num(), x.Denom())
	n.Sub(n, big.NewInt(1))
	return int(n.Quo(n, x.Denom()).Int64())
}

// alike reports whether two results are equal, a nil list being an empty one.
func alike(a, b any) bool {
	x, y := reflect.ValueOf(a), reflect.ValueOf(b)
	if x.Kind() == reflect.Slice && x.Len() == 0 {
		return y.Len() == 0
	}
	if x.Kind() != reflect.Slice || x.Type().Elem().Kind() != reflect.Slice {
		return reflect.DeepEqual(a, b)
	}
	if x.Len() != y.Len() {
		return false
	}
	for i := range x.Len() {
		if !alike(x.Index(i).Interface(), y.Index(i).Interface()) {
			return false
		}
	}
	return true
}

// names are texts that are names, and texts that are none.
func names() map[string]bool {
	return map[string]bool{
		"a": true, "Z": true, "A-": true, "z9": true, "abcdefghijkl": true, "b-0123456789": true,
		"": false, "abcdefghijklm": false, "9a": false, "-a": false, "a b": false, "a_b": false, "a\n": false,
		"a@": false, "a[": false, "\u00e9": false, "a\u00e9": false, "\xff": false, " ": false,
	}
}
