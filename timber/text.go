package timber

import (
	"iter"
	"strconv"
	"strings"

	"spokeshave/api"
)

// Lines begin with these words.
const (
	speciesWord = "species"
	boardWord   = "board"
	defectWord  = "defect"
)

const maxDigits = 7 // of a number

// Print returns the text of a stock.
func Print(l []api.Species, stock []api.Board) (string, api.Errno) {
	if e := CheckStock(l, stock); e != api.OK {
		return "", e
	}
	var text []byte
	for _, s := range l {
		text = append(text, speciesWord+" "+s.Name...)
		text = endLine(text, s.Along, s.Across, s.Radial, s.Density, s.Stiffness, s.Strength)
	}
	for _, b := range stock {
		text = append(text, boardWord+" "+b.Name+" "+b.Species...)
		text = endLine(text, b.Length, b.Width, b.Thick, b.Cut, b.Moisture)
		for _, d := range b.Defects {
			text = append(text, defectWord...)
			text = endLine(text, d.X1, d.Y1, d.X2, d.Y2)
		}
	}
	return string(text), api.OK
}

// Parse returns the species and the boards of a text; or an error and, if a line is wrong, its number.
func Parse(s string) ([]api.Species, []api.Board, int, api.Errno) {
	if len(s) > api.MaxText {
		return nil, nil, 0, api.ErrLarge
	}
	var r reader
	for number, line := range numbered(s) {
		if !r.read(line) {
			return nil, nil, number, api.ErrSyntax
		}
	}
	if e := CheckStock(r.species, r.stock); e != api.OK {
		return nil, nil, 0, e
	}
	return r.species, r.stock, 0, api.OK
}

// endLine writes the numbers at the end of a line.
func endLine(text []byte, numbers ...int) []byte {
	for _, n := range numbers {
		text = append(text, ' ')
		text = strconv.AppendInt(text, int64(n), 10)
	}
	return append(text, '\n')
}

// numbered yields the lines of a text with their numbers from 1 on and their line feeds, which the last line may lack.
func numbered(text string) iter.Seq2[int, string] {
	return func(yield func(int, string) bool) {
		number := 0
		for line := range strings.Lines(text) {
			number++
			if !yield(number, line) {
				return
			}
		}
	}
}

// reader keeps what it has read of the text of a stock.
type reader struct {
	species []api.Species
	stock   []api.Board
}

// read reads a line and reports whether it is right.
func (r *reader) read(line string) bool {
	line, ended := strings.CutSuffix(line, "\n")
	words := strings.Split(line, " ")
	if !ended {
		return false
	}
	switch words[0] {
	case speciesWord:
		return r.readSpecies(words[1:])
	case boardWord:
		return r.readBoard(words[1:])
	case defectWord:
		return r.readDefect(words[1:])
	}
	return false
}

func (r *reader) readSpecies(words []string) bool {
	n, ok := readNumbers(words, 1, 6)
	if !ok || len(r.stock) > 0 {
		return false
	}
	r.species = append(r.species, api.Species{
		Name: words[0], Along: n[0], Across: n[1], Radial: n[2], Density: n[3], Stiffness: n[4], Strength: n[5],
	})
	return true
}

func (r *reader) readBoard(words []string) bool {
	n, ok := readNumbers(words, 2, 5)
	if !ok {
		return false
	}
	r.stock = append(r.stock, api.Board{
		Name: words[0], Species: words[1], Length: n[0], Width: n[1], Thick: n[2], Cut: n[3], Moisture: n[4],
	})
	return true
}

func (r *reader) readDefect(words []string) bool {
	n, ok := readNumbers(words, 0, 4)
	if !ok || len(r.stock) == 0 {
		return false
	}
	b := &r.stock[len(r.stock)-1]
	b.Defects = append(b.Defects, api.Rect{X1: n[0], Y1: n[1], X2: n[2], Y2: n[3]})
	return true
}

// readNumbers returns the numbers behind some names, or false if there are not so many names and numbers.
func readNumbers(words []string, names, count int) ([]int, bool) {
	if len(words) != names+count {
		return nil, false
	}
	var numbers []int
	for _, word := range words[names:] {
		n, ok := readNumber(word)
		if !ok {
			return nil, false
		}
		numbers = append(numbers, n)
	}
	return numbers, true
}

// readNumber returns the number of a word, or false if it is none as texts of a stock have them.
func readNumber(word string) (int, bool) {
	if word == "" || len(word) > maxDigits || word[0] == '0' && word != "0" {
		return 0, false
	}
	number := 0
	for i := range len(word) {
		if !isDigit(word[i]) {
			return 0, false
		}
		number = number*10 + int(word[i]-'0')
	}
	return number, true
}
