package shop

import (
	"slices"
	"strconv"
	"strings"

	"spokeshave/api"
)

// The kinds of lines, in the order in which they stand.
const (
	machineLine = iota
	clampsLine
	operationLine
	glueLine
)

const maxDigits = 7 // of a number

// wordOf returns the word with which lines of a kind begin.
func wordOf(kind int) string {
	return [...]string{machineLine: "machine", clampsLine: "clamps", operationLine: "operation", glueLine: "glue"}[kind]
}

// Print returns the text of a shop.
func Print(s api.Shop) (string, api.Errno) {
	if e := Check(s); e != api.OK {
		return "", e
	}
	var text strings.Builder
	for _, m := range s.Machines {
		text.WriteString(lineOf(wordOf(machineLine)+" "+m.Name, m.Change, m.Life, m.Sharpen))
	}
	text.WriteString(lineOf(wordOf(clampsLine), s.Clamps))
	for _, o := range s.Operations {
		numbers := append([]int{o.Machine, o.Setup, o.Minutes}, o.Needs...)
		text.WriteString(lineOf(wordOf(operationLine)+" "+o.Name, numbers...))
	}
	for _, g := range s.Glues {
		text.WriteString(lineOf(wordOf(glueLine), g.Spread, g.Press, g.Open, g.Cure, g.Clamps))
	}
	return text.String(), api.OK
}

// lineOf returns a line that begins with some words and ends with numbers.
func lineOf(words string, numbers ...int) string {
	for _, n := range numbers {
		words += " " + strconv.Itoa(n)
	}
	return words + "\n"
}

// Parse returns the shop of a text; or an error and, if a line is wrong, its number.
func Parse(t string) (api.Shop, int, api.Errno) {
	if len(t) > api.MaxText {
		return api.Shop{}, 0, api.ErrLarge
	}
	r := reader{kind: machineLine}
	number := 0
	for line := range strings.Lines(t) {
		number++
		if !r.read(line) {
			return api.Shop{}, number, api.ErrSyntax
		}
	}
	if r.kind == machineLine { // the line of the clamps would follow
		return api.Shop{}, number + 1, api.ErrSyntax
	}
	if e := Check(r.shop); e != api.OK {
		return api.Shop{}, 0, e
	}
	return r.shop, 0, api.OK
}

// reader keeps the shop that it has read, and the kind of its last line; ahead of the first one it is as if there were a machine.
type reader struct {
	shop api.Shop
	kind int
}

// read reads a line with its line feed and reports whether it is right.
func (r *reader) read(line string) bool {
	line, ended := strings.CutSuffix(line, "\n")
	words := strings.Split(line, " ")
	kind := kindOf(words[0])
	if !ended || !mayFollow(kind, r.kind) {
		return false
	}
	r.kind = kind
	switch kind {
	case machineLine:
		return r.readMachine(words[1:])
	case clampsLine:
		return r.readClamps(words[1:])
	case operationLine:
		return r.readOperation(words[1:])
	default:
		return r.readGlue(words[1:])
	}
}

// kindOf returns the kind of the lines that begin with a word, or -1.
func kindOf(word string) int {
	for kind := range glueLine + 1 {
		if word == wordOf(kind) {
			return kind
		}
	}
	return -1
}

// mayFollow reports whether a line of a kind may stand behind one of another kind.
func mayFollow(kind, before int) bool {
	switch kind {
	case machineLine, clampsLine:
		return before == machineLine
	case operationLine:
		return before == clampsLine || before == operationLine
	case glueLine:
		return before != machineLine
	}
	return false
}

func (r *reader) readMachine(words []string) bool {
	name, n, ok := readNamed(words)
	if !ok || len(n) != 3 {
		return false
	}
	r.shop.Machines = append(r.shop.Machines, api.Machine{Name: name, Change: n[0], Life: n[1], Sharpen: n[2]})
	return true
}

func (r *reader) readClamps(words []string) bool {
	n, ok := readNumbers(words)
	if !ok || len(n) != 1 {
		return false
	}
	r.shop.Clamps = n[0]
	return true
}

func (r *reader) readOperation(words []string) bool {
	name, n, ok := readNamed(words)
	if !ok || len(n) < 3 {
		return false
	}
	o := api.Operation{Name: name, Machine: n[0], Setup: n[1], Minutes: n[2], Needs: slices.Clone(n[3:])}
	r.shop.Operations = append(r.shop.Operations, o)
	return true
}

func (r *reader) readGlue(words []string) bool {
	n, ok := readNumbers(words)
	if !ok || len(n) != 5 {
		return false
	}
	r.shop.Glues = append(r.shop.Glues, api.Glue{Spread: n[0], Press: n[1], Open: n[2], Cure: n[3], Clamps: n[4]})
	return true
}

// readNamed returns the name and the numbers that words are, or false if there is no name, or one of the others is no number.
func readNamed(words []string) (string, []int, bool) {
	if len(words) == 0 {
		return "", nil, false
	}
	numbers, ok := readNumbers(words[1:])
	return words[0], numbers, ok
}

// readNumbers returns the numbers that words are, or false if one is none.
func readNumbers(words []string) ([]int, bool) {
	var numbers []int
	for _, word := range words {
		n, err := strconv.Atoi(word)
		if err != nil || strconv.Itoa(n) != word || len(strings.TrimPrefix(word, "-")) > maxDigits {
			return nil, false
		}
		numbers = append(numbers, n)
	}
	return numbers, true
}
