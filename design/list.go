package design

import (
	"cmp"
	"slices"

	"spokeshave/api"
)

// CuttingList returns the blanks of the parts of a design, equal ones together.
func CuttingList(d api.Design) ([]api.Entry, api.Errno) {
	r, e := resolve(d)
	if e != api.OK {
		return nil, e
	}
	var entries []api.Entry
	for i, row := range d.Parts {
		one := entryOf(row, r.blanks[i])
		k := slices.IndexFunc(entries, func(x api.Entry) bool { return compareEntries(x, one) == 0 })
		if k < 0 {
			k = len(entries)
			entries = append(entries, one)
		}
		entries[k].Count++
		entries[k].Parts = append(entries[k].Parts, row.Name)
	}
	slices.SortFunc(entries, compareEntries)
	return entries, api.OK
}

// entryOf returns an entry for the blank of a part, without the part.
func entryOf(r api.Row, b api.Box) api.Entry {
	sizes := []int{b.X2 - b.X1, b.Y2 - b.Y1, b.Z2 - b.Z1}
	length := sizes[r.Grain]
	sizes = slices.Delete(sizes, r.Grain, r.Grain+1)
	return api.Entry{Species: r.Species, Length: length, Width: slices.Max(sizes), Thick: slices.Min(sizes)}
}

// compareEntries compares the species and the sizes of entries.
func compareEntries(a, b api.Entry) int {
	return cmp.Or(
		cmp.Compare(a.Species, b.Species),
		cmp.Compare(a.Length, b.Length),
		cmp.Compare(a.Width, b.Width),
		cmp.Compare(a.Thick, b.Thick),
	)
}
