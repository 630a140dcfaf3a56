package solid

import (
	"strconv"
	"strings"

	"spokeshave/api"
)

const (
	cellWord  = "cell" // a line begins with it
	maxDigits = 8      // of a number
)

// Print returns the text of a solid.
func Print(s api.Solid) (string, api.Errno) {
	if e := Check(s); e != api.OK {
		return "", e
	}
	var text []byte
	for _, c := range s.Cells {
		text = append(text, cellWord...)
		for _, p := range c.Planes {
			for _, n := range []int{p.A, p.B, p.C, p.D} {
				text = append(text, ' ')
				text = strconv.AppendInt(text, int64(n), 10)
			}
		}
		text = append(text, '\n')
	}
	return string(text), api.OK
}

// Parse returns the solid of a text; or an error and, if a line is not that of a cell, its number.
func Parse(t string) (api.Solid, int, api.Errno) {
	if len(t) > api.MaxText {
		return api.Solid{}, 0, api.ErrLarge
	}
	var s api.Solid
	for line := range strings.Lines(t) {
		c, ok := readCell(line)
		if !ok {
			return api.Solid{}, len(s.Cells) + 1, api.ErrSyntax
		}
		s.Cells = append(s.Cells, c)
	}
	if e := Check(s); e != api.OK {
		return api.Solid{}, 0, e
	}
	return s, 0, api.OK
}

// readCell returns the cell of a line, or false if the line is not that of a cell.
func readCell(line string) (api.Cell, bool) {
	line, ended := strings.CutSuffix(line, "\n")
	words := strings.Split(line, " ")
	if !ended || words[0] != cellWord || len(words)%4 != 1 {
		return api.Cell{}, false
	}
	var c api.Cell
	for i := 1; i < len(words); i += 4 {
		var n [4]int
		for j := range n {
			number, ok := readNumber(words[i+j])
			if !ok {
				return api.Cell{}, false
			}
			n[j] = number
		}
		c.Planes = append(c.Planes, api.Plane{A: n[0], B: n[1], C: n[2], D: n[3]})
	}
	return c, true
}

// readNumber returns the number of a word, or false if the word is not a number as texts have them.
func readNumber(word string) (int, bool) {
	digits, negative := strings.CutPrefix(word, "-")
	if digits == "" || len(digits) > maxDigits || digits[0] == '0' && word != "0" {
		return 0, false
	}
	number := 0
	for _, d := range []byte(digits) {
		if d < '0' || d > '9' {
			return 0, false
		}
		number = number*10 + int(d-'0')
	}
	if negative {
		number = -number
	}
	return number, true
}
