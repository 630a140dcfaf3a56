package timber

import (
	"slices"

	"spokeshave/api"
)

const (
	maxGrades = 20
	perMille  = 1000
	perGram   = 1000000000000 // of a volume times a density
)

// GradeOf returns the number of the first grade that a board has.
func GradeOf(b api.Board, l []api.Grade) (int, api.Errno) {
	if e := checkBoardAlone(b); e != api.OK {
		return 0, e
	}
	if e := checkGrades(l); e != api.OK {
		return 0, e
	}
	longest := 0
	for _, c := range clearOf(b) {
		longest = max(longest, c.Hi-c.Lo)
	}
	share := defective(b) * perMille
	has := func(g api.Grade) bool {
		return len(b.Defects) <= g.Most && share <= g.Share*b.Length*b.Width && longest >= g.Clear
	}
	number := slices.IndexFunc(l, has)
	if number < 0 {
		return 0, api.ErrNone
	}
	return number, api.OK
}

// Mass returns the mass of a board in grams.
func Mass(l []api.Species, b api.Board) (int, api.Errno) {
	s, e := speciesOf(l, b)
	if e != api.OK {
		return 0, e
	}
	dry := b.Length * b.Width * b.Thick * s.Density / perGram
	return dry * (perMille + b.Moisture) / perMille, api.OK
}

// checkGrades returns the error of a list of grades.
func checkGrades(l []api.Grade) api.Errno {
	if len(l) > maxGrades {
		return api.ErrLarge
	}
	for _, g := range l {
		switch {
		case !isName(g.Name):
			return api.ErrName
		case !within(0, api.MaxDefects, g.Most), !within(0, perMille, g.Share), !within(0, api.MaxSize, g.Clear):
			return api.ErrRange
		}
	}
	return api.OK
}
