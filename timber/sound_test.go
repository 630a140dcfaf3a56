package timber_test

import (
	"math"
	"slices"
	"testing"

	"spokeshave/api"
	"spokeshave/timber"
)

// spots tells of each spot of a board whether a defect lies on it: the spot [x][y] is from (x, y) to (x+1, y+1).
func spots(b api.Board) [][]bool {
	bad := make([][]bool, b.Length)
	for x := range bad {
		bad[x] = make([]bool, b.Width)
		for y := range bad[x] {
			bad[x][y] = slices.ContainsFunc(b.Defects, func(d api.Rect) bool {
				return d.X1 <= x && x < d.X2 && d.Y1 <= y && y < d.Y2
			})
		}
	}
	return bad
}

// isSound tells whether no spot of a rectangle has a defect.
func isSound(bad [][]bool, r api.Rect) bool {
	for x := r.X1; x < r.X2; x++ {
		if slices.Contains(bad[x][r.Y1:r.Y2], true) {
			return false
		}
	}
	return true
}

// widestOf goes through all rectangles of a length.
func widestOf(b api.Board, length int) (api.Rect, bool) {
	bad := spots(b)
	for width := b.Width; width > 0; width-- {
		for x := 0; x+length <= b.Length; x++ {
			for y := 0; y+width <= b.Width; y++ {
				if r := (api.Rect{X1: x, Y1: y, X2: x + length, Y2: y + width}); isSound(bad, r) {
					return r, true
				}
			}
		}
	}
	return api.Rect{}, false
}

// clearOf looks at each column of spots.
func clearOf(b api.Board) []api.Interval {
	var clear []api.Interval
	for x, column := range spots(b) {
		if slices.Contains(column, true) {
			continue
		}
		if n := len(clear); n > 0 && clear[n-1].Hi == x {
			clear[n-1].Hi++
		} else {
			clear = append(clear, api.Interval{Lo: x, Hi: x + 1})
		}
	}
	return clear
}

// P2.4: the examples of the chapter.
func TestSoundExamples(t *testing.T) {
	b := spotted()
	if a, e := timber.Area(b); a != 4000 || e != api.OK {
		t.Errorf("Area: %d, %d", a, e)
	}
	if a, e := timber.Defective(b); a != 250 || e != api.OK {
		t.Errorf("Defective: %d, %d", a, e)
	}
	if l, e := timber.Clear(b); !slices.Equal(l, []api.Interval{{Lo: 0, Hi: 10}, {Lo: 20, Hi: 60}, {Lo: 70, Hi: 100}}) || e != api.OK {
		t.Errorf("Clear: %v, %d", l, e)
	}
	if r, e := timber.Widest(b, 40); r != (api.Rect{X1: 20, Y1: 0, X2: 60, Y2: 40}) || e != api.OK {
		t.Errorf("Widest 40: %v, %d", r, e)
	}
	if r, e := timber.Widest(b, 50); r != (api.Rect{X1: 20, Y1: 0, X2: 70, Y2: 30}) || e != api.OK {
		t.Errorf("Widest 50: %v, %d", r, e)
	}
}

// P2.4: what touches a defect is sound, what overlaps it is not.
func TestSound(t *testing.T) {
	b := with(plain("one", "oak", 100, 40), api.Rect{X1: 10, Y1: 5, X2: 20, Y2: 15})
	for _, x := range []struct {
		r    api.Rect
		want bool
	}{
		{api.Rect{X2: 10, Y2: 40}, true},
		{api.Rect{X2: 11, Y2: 40}, false},
		{api.Rect{X1: 20, X2: 100, Y2: 40}, true},
		{api.Rect{X1: 19, X2: 100, Y2: 40}, false},
		{api.Rect{X2: 100, Y2: 5}, true},
		{api.Rect{X2: 100, Y2: 6}, false},
		{api.Rect{Y1: 15, X2: 100, Y2: 40}, true},
		{api.Rect{Y1: 14, X2: 100, Y2: 40}, false},
		{api.Rect{X1: 20, Y1: 15, X2: 21, Y2: 16}, true},
		{api.Rect{X1: 12, Y1: 7, X2: 13, Y2: 8}, false},
		{api.Rect{X1: 10, Y1: 5, X2: 20, Y2: 15}, false},
		{api.Rect{X2: 100, Y2: 40}, false},
	} {
		if is, e := timber.Sound(b, x.r); is != x.want || e != api.OK {
			t.Errorf("%v: %v, %d", x.r, is, e)
		}
	}
	for _, x := range []struct {
		r    api.Rect
		want api.Errno
	}{
		{api.Rect{X1: 5, X2: 5, Y2: 1}, api.ErrForm},
		{api.Rect{X1: 6, X2: 5, Y2: 1}, api.ErrForm},
		{api.Rect{X2: 5, Y1: 1, Y2: 1}, api.ErrForm},
		{api.Rect{X2: 5, Y1: 2, Y2: 1}, api.ErrForm},
		{api.Rect{X1: -2, X2: -2, Y2: 1}, api.ErrForm},
		{api.Rect{X1: -1, X2: 5, Y2: 1}, api.ErrRange},
		{api.Rect{X2: 101, Y2: 1}, api.ErrRange},
		{api.Rect{X2: 5, Y1: -1, Y2: 1}, api.ErrRange},
		{api.Rect{X2: 5, Y2: 41}, api.ErrRange},
		{api.Rect{X1: math.MinInt, Y1: math.MinInt, X2: math.MaxInt, Y2: math.MaxInt}, api.ErrRange},
	} {
		if is, e := timber.Sound(b, x.r); is || e != x.want {
			t.Errorf("%v: %v, %d", x.r, is, e)
		}
	}
	if _, e := timber.Sound(api.Board{}, api.Rect{}); e != api.ErrName {
		t.Errorf("board ahead: %d", e)
	}
}

// P2.4: boards without defects, and boards with nothing else.
func TestClearOfAllAndNothing(t *testing.T) {
	b := plain("one", "oak", 100, 40)
	if l, e := timber.Clear(b); !slices.Equal(l, []api.Interval{{Lo: 0, Hi: 100}}) || e != api.OK {
		t.Errorf("no defects: %v, %d", l, e)
	}
	if a, e := timber.Defective(b); a != 0 || e != api.OK {
		t.Errorf("no defects: %d, %d", a, e)
	}
	halves := with(b, api.Rect{X1: 50, X2: 100, Y1: 39, Y2: 40}, api.Rect{X2: 50, Y2: 1})
	if l, e := timber.Clear(halves); len(l) != 0 || e != api.OK {
		t.Errorf("all of the length: %v, %d", l, e)
	}
	if r, e := timber.Widest(halves, 100); r != (api.Rect{Y1: 1, X2: 100, Y2: 39}) || e != api.OK {
		t.Errorf("between: %v, %d", r, e)
	}
	bad := with(b, api.Rect{X2: 100, Y2: 40}, api.Rect{X2: 1, Y2: 1})
	if a, e := timber.Defective(bad); a != 4000 || e != api.OK {
		t.Errorf("all of the board: %d, %d", a, e)
	}
	if r, e := timber.Widest(bad, 1); r != (api.Rect{}) || e != api.ErrNone {
		t.Errorf("all of the board: %v, %d", r, e)
	}
	large := api.Board{Name: "a", Species: "oak", Length: 600000, Width: 100000, Thick: 20000, Defects: []api.Rect{{X2: 600000, Y2: 99999}}}
	if a, e := timber.Area(large); a != 60000000000 || e != api.OK {
		t.Errorf("a large board: %d, %d", a, e)
	}
	if a, e := timber.Defective(large); a != 59999400000 || e != api.OK {
		t.Errorf("a large board: %d, %d", a, e)
	}
	if r, e := timber.Widest(large, 600000); r != (api.Rect{Y1: 99999, X2: 600000, Y2: 100000}) || e != api.OK {
		t.Errorf("a large board: %v, %d", r, e)
	}
}

// P2.4: wrong lengths.
func TestWidestErrors(t *testing.T) {
	for _, length := range []int{math.MinInt, -1, 0, 101, math.MaxInt} {
		if r, e := timber.Widest(spotted(), length); r != (api.Rect{}) || e != api.ErrRange {
			t.Errorf("%d: %v, %d", length, r, e)
		}
	}
	if r, e := timber.Widest(spotted(), 100); r != (api.Rect{Y1: 15, X2: 100, Y2: 30}) || e != api.OK {
		t.Errorf("100: %v, %d", r, e)
	}
	if r, e := timber.Widest(spotted(), 1); r != (api.Rect{X2: 1, Y2: 40}) || e != api.OK {
		t.Errorf("1: %v, %d", r, e)
	}
	blocked := with(plain("one", "oak", 10, 4), api.Rect{X1: 5, X2: 6, Y2: 4})
	if r, e := timber.Widest(blocked, 6); r != (api.Rect{}) || e != api.ErrNone {
		t.Errorf("6: %v, %d", r, e)
	}
	if _, e := timber.Widest(api.Board{}, 0); e != api.ErrName {
		t.Errorf("board ahead: %d", e)
	}
}

// P2.4: of rectangles of the same width the first one by X1, then by Y1.
func TestWidestIsFirst(t *testing.T) {
	b := with(plain("one", "oak", 30, 9), api.Rect{X1: 12, Y1: 4, X2: 14, Y2: 5}, api.Rect{X1: 4, Y1: 4, X2: 6, Y2: 5})
	for length, want := range map[int]api.Rect{
		4: {X2: 4, Y2: 9}, 5: {X1: 6, X2: 11, Y2: 9}, 7: {X1: 14, X2: 21, Y2: 9}, 16: {X1: 14, X2: 30, Y2: 9}, 17: {X2: 17, Y2: 4},
	} {
		if r, e := timber.Widest(b, length); r != want || e != api.OK {
			t.Errorf("%d: %v, %d, want %v", length, r, e, want)
		}
	}
}

// P2.4: many defects.
func TestManyDefects(t *testing.T) {
	b := plain("one", "oak", 600000, 100000)
	for i := range 60 {
		b.Defects = append(b.Defects, api.Rect{X1: i * 10000, Y1: i * 1000, X2: i*10000 + 1, Y2: i*1000 + 2000})
	}
	if a, e := timber.Defective(b); a != 60*2000 || e != api.OK {
		t.Errorf("Defective: %d, %d", a, e)
	}
	l, e := timber.Clear(b)
	if len(l) != 60 || l[59] != (api.Interval{Lo: 590001, Hi: 600000}) || e != api.OK {
		t.Errorf("Clear: %v, %d", l, e)
	}
	if r, e := timber.Widest(b, 600000); r != (api.Rect{Y1: 61000, X2: 600000, Y2: 100000}) || e != api.OK {
		t.Errorf("Widest: %v, %d", r, e)
	}
	if r, e := timber.Widest(b, 500000); r != (api.Rect{Y1: 51000, X2: 500000, Y2: 100000}) || e != api.OK {
		t.Errorf("Widest: %v, %d", r, e)
	}
}

// P2.4, P2.10: small boards against their spots.
func TestSoundBySpots(t *testing.T) {
	random := steadily(4)
	for range 1500 {
		b := anyBoard(random)
		bad, area, sum := spots(b), 0, 0
		for _, column := range bad {
			for _, is := range column {
				if is {
					area++
				}
			}
		}
		for _, d := range b.Defects {
			sum += (d.X2 - d.X1) * (d.Y2 - d.Y1)
		}
		if a, e := timber.Defective(b); a != area || e != api.OK || a > sum || a > b.Length*b.Width {
			t.Fatalf("Defective %v: %d, %d, want %d", b, a, e, area)
		}
		if l, e := timber.Clear(b); !slices.Equal(l, clearOf(b)) || e != api.OK {
			t.Fatalf("Clear %v: %v, %d", b, l, e)
		}
		for length := 1; length <= b.Length; length++ {
			want, found := widestOf(b, length)
			if r, e := timber.Widest(b, length); r != want || found != (e == api.OK) || !found && e != api.ErrNone {
				t.Fatalf("Widest %v, %d: %v, %d, want %v", b, length, r, e, want)
			}
			if is, e := timber.Sound(b, want); found && (!is || e != api.OK) {
				t.Fatalf("Sound %v, %v: %v, %d", b, want, is, e)
			}
		}
		r := api.Rect{X1: random.IntN(b.Length), Y1: random.IntN(b.Width)}
		r.X2, r.Y2 = r.X1+1+random.IntN(b.Length-r.X1), r.Y1+1+random.IntN(b.Width-r.Y1)
		is, e := timber.Sound(b, r)
		if is != isSound(bad, r) || e != api.OK {
			t.Fatalf("Sound %v, %v: %v, %d", b, r, is, e)
		}
		smaller := r
		smaller.X1, smaller.Y2 = r.X1+random.IntN(r.X2-r.X1), r.Y2-random.IntN(r.Y2-r.Y1)
		if still, _ := timber.Sound(b, smaller); is && !still {
			t.Fatalf("%v: %v is sound, but %v is not", b, r, smaller)
		}
	}
}

// P2.10: the clear lengths are apart, and none overlaps a defect's X.
func TestClearConsequences(t *testing.T) {
	random := steadily(10)
	for range 500 {
		b := anyBoard(random)
		l, _ := timber.Clear(b)
		for i, c := range l {
			if c.Lo >= c.Hi || i > 0 && c.Lo <= l[i-1].Hi {
				t.Fatalf("%v: %v", b, l)
			}
			if slices.ContainsFunc(b.Defects, func(d api.Rect) bool { return d.X1 < c.Hi && c.Lo < d.X2 }) {
				t.Fatalf("%v: %v overlaps a defect", b, c)
			}
		}
	}
}
