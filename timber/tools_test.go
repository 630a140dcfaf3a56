package timber_test

import (
	"math/rand/v2"

	"spokeshave/api"
)

// oak returns the species of the chapter's examples.
func oak() api.Species {
	return api.Species{Name: "oak", Along: 1, Across: 300, Radial: 150, Density: 700, Stiffness: 12000, Strength: 90}
}

// woods returns a list of species.
func woods() []api.Species {
	return []api.Species{
		oak(),
		{Name: "ash", Along: 2, Across: 250, Radial: 160, Density: 680, Stiffness: 13000, Strength: 100},
		{Name: "Pine-2", Along: 0, Across: 200, Radial: 100, Density: 450, Stiffness: 9000, Strength: 60},
	}
}

// plain returns a board without defects.
func plain(name, species string, length, width int) api.Board {
	return api.Board{Name: name, Species: species, Length: length, Width: width, Thick: 20, Moisture: 80}
}

// with returns a board with further defects.
func with(b api.Board, defects ...api.Rect) api.Board {
	b.Defects = append(append([]api.Rect{}, b.Defects...), defects...)
	return b
}

// spotted returns the board of the chapter's examples.
func spotted() api.Board {
	return with(plain("spotted", "oak", 100, 40), api.Rect{X1: 10, Y1: 0, X2: 20, Y2: 15}, api.Rect{X1: 60, Y1: 30, X2: 70, Y2: 40})
}

// steadily returns numbers that look random, but are the same in each run.
func steadily(row uint64) *rand.Rand {
	return rand.New(rand.NewPCG(row, 2))
}

// anyBoard returns a small board with some defects.
func anyBoard(random *rand.Rand) api.Board {
	b := plain("any", "oak", 1+random.IntN(14), 1+random.IntN(9))
	for range random.IntN(5) {
		x, y := random.IntN(b.Length), random.IntN(b.Width)
		b.Defects = append(b.Defects, api.Rect{X1: x, Y1: y, X2: x + 1 + random.IntN(min(4, b.Length-x)), Y2: y + 1 + random.IntN(b.Width-y)})
	}
	return b
}

// field is a number of a value, with its range.
type field[T any] struct {
	name      string
	of        func(*T) *int
	low, high int
}

// names are texts that are names, and texts that are none.
func names() map[string]bool {
	return map[string]bool{
		"a": true, "Z": true, "A-": true, "z9": true, "abcdefghijkl": true, "b-0123456789": true,
		"": false, "abcdefghijklm": false, "9a": false, "-a": false, "a b": false, "a_b": false, "a\n": false, "a/": false, "a:": false,
		"a@": false, "a[": false, "a`": false, "a{": false, "@": false, "[": false, "`": false, "{": false, "\u00e9": false, "a\u00e9": false, "\xff": false, " ": false,
	}
}
