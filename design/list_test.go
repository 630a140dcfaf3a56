package design_test

import (
	"slices"
	"strings"
	"testing"

	"spokeshave/api"
	"spokeshave/design"
)

// P5.8: the third example of the chapter.
func TestCuttingListShelf(t *testing.T) {
	l, e := design.CuttingList(parsed(t, shelfText))
	want := []api.Entry{
		{Species: "oak", Length: 30000, Width: 20000, Thick: 2000, Count: 2, Parts: []string{"left", "right"}},
		{Species: "oak", Length: 76000, Width: 20000, Thick: 2000, Count: 1, Parts: []string{"board"}},
	}
	if e != api.OK || !alike(l, want) {
		t.Errorf("%v, %d", l, e)
	}
	if l, e := design.CuttingList(api.Design{Name: "empty"}); e != api.OK || len(l) > 0 {
		t.Errorf("%v, %d", l, e)
	}
}

// P5.8: the grain gives the length, the greater one of the other sizes is the width; entries by species, length, width, thickness.
func TestCuttingList(t *testing.T) {
	d := parsed(t, `design d
part a oak 0 at 0, 0, 0 size 10, 20, 30
part b oak 1 at 0, 0, 0 size 10, 20, 30
part c oak 2 at 0, 0, 0 size 10, 20, 30
part d oak 0 at 5, 0, 0 size 10, 30, 20
part e ash 0 at 0, 0, 0 size 99, 1, 99
part f oak 2 at 1, 1, 1 size 30, 20, 10
part g oak 0 at 0, 0, 0 size 10, 31, 1
part h oak 0 at 0, 0, 0 size 10, 20, 29
part i Oak 0 at 0, 0, 0 size 10, 20, 30
part k oak 1 at 0, 0, 0 size 19, 20, 30
tie spline a b turn 0 at 0, 0, 0 size 40, 40, 30 with 40, 5, 6, 10, 20
`)
	want := []api.Entry{
		{Species: "Oak", Length: 10, Width: 30, Thick: 20, Count: 1, Parts: []string{"i"}},
		{Species: "ash", Length: 99, Width: 99, Thick: 1, Count: 1, Parts: []string{"e"}},
		{Species: "oak", Length: 10, Width: 29, Thick: 20, Count: 1, Parts: []string{"h"}},
		{Species: "oak", Length: 10, Width: 30, Thick: 20, Count: 3, Parts: []string{"a", "d", "f"}},
		{Species: "oak", Length: 10, Width: 31, Thick: 1, Count: 1, Parts: []string{"g"}},
		{Species: "oak", Length: 20, Width: 30, Thick: 10, Count: 1, Parts: []string{"b"}},
		{Species: "oak", Length: 20, Width: 30, Thick: 19, Count: 1, Parts: []string{"k"}},
		{Species: "oak", Length: 30, Width: 20, Thick: 10, Count: 1, Parts: []string{"c"}},
	}
	if l, e := design.CuttingList(d); e != api.OK || !alike(l, want) {
		t.Errorf("%v, %d", l, e)
	}
}

// P5.8, P5.12: the counts add up to the number of parts, and entries of any designs are those of the definition.
func TestCuttingListAny(t *testing.T) {
	random := steadily(50)
	for range 150 {
		k := anyDesign(t, random, number(random, 0, 8), number(random, 0, 2), 0)
		for i := range k.design.Parts {
			// Some blanks are the same.
			if i > 0 && random.IntN(2) == 0 {
				k.blanks[i], k.design.Parts[i].At, k.design.Parts[i].Size = k.blanks[0], k.design.Parts[0].At, k.design.Parts[0].Size
			}
		}
		l, e := design.CuttingList(k.design)
		if e != api.OK {
			t.Fatalf("%v: %d", k.design, e)
		}
		count := 0
		for i, x := range l {
			count += x.Count
			if i > 0 && slices.Compare([]int{strings.Compare(l[i-1].Species, x.Species), l[i-1].Length, l[i-1].Width, l[i-1].Thick}, []int{0, x.Length, x.Width, x.Thick}) >= 0 {
				t.Fatalf("%v: %v", k.design, l)
			}
			var parts []string
			for n, r := range k.design.Parts {
				b := k.blanks[n]
				sizes := []int{b.X2 - b.X1, b.Y2 - b.Y1, b.Z2 - b.Z1}
				others := []int{sizes[(r.Grain+1)%3], sizes[(r.Grain+2)%3]}
				if r.Species == x.Species && sizes[r.Grain] == x.Length && slices.Max(others) == x.Width && slices.Min(others) == x.Thick {
					parts = append(parts, r.Name)
				}
			}
			if !slices.Equal(parts, x.Parts) || len(parts) != x.Count {
				t.Fatalf("%v: %v, want the parts %v", k.design, x, parts)
			}
		}
		if count != len(k.design.Parts) {
			t.Fatalf("%v: %v", k.design, l)
		}
	}
}
