package fit

import (
	"strconv"
	"strings"

	"spokeshave/api"
)

// Lines begin with these words.
const (
	fitWord   = "fit"
	outerWord = "outer"
	innerWord = "inner"
)

const maxDigits = 7 // of a number

// Print returns the text of fits.
func Print(f []api.Fit) (string, api.Errno) {
	if e := CheckFits(f); e != api.OK {
		return "", e
	}
	var text strings.Builder
	for _, fit := range f {
		text.WriteString(lineOf(fitWord+" "+fit.Name, fit.Least, fit.Most))
		for _, p := range fit.Outer {
			text.WriteString(pieceLine(outerWord, p))
		}
		for _, p := range fit.Inner {
			text.WriteString(pieceLine(innerWord, p))
		}
	}
	return text.String(), api.OK
}

func pieceLine(word string, p api.Made) string {
	return lineOf(word, p.Size, p.Rate, p.Moisture, p.Group, p.Minus, p.Plus)
}

// lineOf returns a line that begins with some words and ends with numbers.
func lineOf(words string, numbers ...int) string {
	for _, n := range numbers {
		words += " " + strconv.Itoa(n)
	}
	return words + "\n"
}

// Parse returns the fits of a text; or an error and, if a line is wrong, its number.
func Parse(s string) ([]api.Fit, int, api.Errno) {
	if len(s) > api.MaxText {
		return nil, 0, api.ErrLarge
	}
	var r reader
	number := 0
	for line := range strings.Lines(s) {
		number++
		if !r.read(line) {
			return nil, number, api.ErrSyntax
		}
	}
	if e := CheckFits(r.fits); e != api.OK {
		return nil, 0, e
	}
	return r.fits, 0, api.OK
}

// reader keeps the fits that it has read.
type reader struct{ fits []api.Fit }

// read reads a line with its line feed and reports whether it is right.
func (r *reader) read(line string) bool {
	line, ended := strings.CutSuffix(line, "\n")
	words := strings.Split(line, " ")
	switch {
	case !ended:
		return false
	case words[0] == fitWord:
		return r.readFit(words[1:])
	case words[0] == outerWord || words[0] == innerWord:
		return r.readPiece(words[0], words[1:])
	}
	return false
}

func (r *reader) readFit(words []string) bool {
	if len(words) == 0 {
		return false
	}
	n, ok := readNumbers(words[1:], 2)
	if ok {
		r.fits = append(r.fits, api.Fit{Name: words[0], Least: n[0], Most: n[1]})
	}
	return ok
}

func (r *reader) readPiece(where string, words []string) bool {
	n, ok := readNumbers(words, 6)
	if !ok || len(r.fits) == 0 {
		return false
	}
	p := api.Made{Size: n[0], Rate: n[1], Moisture: n[2], Group: n[3], Minus: n[4], Plus: n[5]}
	f := &r.fits[len(r.fits)-1]
	switch {
	case where == innerWord:
		f.Inner = append(f.Inner, p)
	case len(f.Inner) > 0:
		return false
	default:
		f.Outer = append(f.Outer, p)
	}
	return true
}

// readNumbers returns the numbers that words are, or false if there are not so many words or one is none.
func readNumbers(words []string, count int) ([]int, bool) {
	if len(words) != count {
		return nil, false
	}
	numbers := make([]int, 0, count)
	for _, word := range words {
		n, err := strconv.Atoi(word)
		if err != nil || strconv.Itoa(n) != word || len(strings.TrimPrefix(word, "-")) > maxDigits {
			return nil, false
		}
		numbers = append(numbers, n)
	}
	return numbers, true
}
