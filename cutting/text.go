package cutting

import (
	"strconv"
	"strings"

	"spokeshave/api"
)

// Lines begin with these words.
const (
	layoutWord = "layout"
	pieceWord  = "piece"
	wasteWord  = "waste"
	acrossWord = "across"
	alongWord  = "along"
)

const maxNumber = 9999999 // of a text

// Print returns the text of a plan.
func Print(plan []api.Layout) (string, api.Errno) {
	if len(plan) > api.MaxBoards {
		return "", api.ErrLarge
	}
	var text strings.Builder
	for _, l := range plan {
		if len(l.Cuts) > api.MaxCuts {
			return "", api.ErrLarge
		}
		if !within(0, maxNumber, l.Board) {
			return "", api.ErrRange
		}
		text.WriteString(lineOf(layoutWord, l.Board))
		for _, c := range l.Cuts {
			if !within(0, maxNumber, c.At, c.Low, c.High) || !within(-1, maxNumber, c.Blank) {
				return "", api.ErrRange
			}
			if !isFormed(c) {
				return "", api.ErrForm
			}
			text.WriteString(lineOfCut(c))
		}
	}
	return text.String(), api.OK
}

func lineOfCut(c api.Cut) string {
	switch {
	case isWaste(c):
		return lineOf(wasteWord)
	case isLeaf(c):
		return lineOf(pieceWord, c.Blank)
	case c.Across:
		return lineOf(acrossWord, c.At, c.Low, c.High)
	default:
		return lineOf(alongWord, c.At, c.Low, c.High)
	}
}

// lineOf returns a line that begins with a word and ends with numbers.
func lineOf(word string, numbers ...int) string {
	for _, n := range numbers {
		word += " " + strconv.Itoa(n)
	}
	return word + "\n"
}

// Parse returns the plan of a text; or an error and, if a line is wrong, its number.
func Parse(s string) ([]api.Layout, int, api.Errno) {
	if len(s) > api.MaxText {
		return nil, 0, api.ErrLarge
	}
	var plan []api.Layout
	number := 0
	for line := range strings.Lines(s) {
		number++
		read, ok := readLine(plan, line)
		if !ok {
			return nil, number, api.ErrSyntax
		}
		plan = read
	}
	if len(plan) > api.MaxBoards {
		return nil, 0, api.ErrLarge
	}
	for _, l := range plan {
		if len(l.Cuts) > api.MaxCuts {
			return nil, 0, api.ErrLarge
		}
	}
	return plan, 0, api.OK
}

// readLine adds to a plan what a line with its line feed says, or reports that the line is wrong.
func readLine(plan []api.Layout, line string) ([]api.Layout, bool) {
	line, ended := strings.CutSuffix(line, "\n")
	words := strings.Split(line, " ")
	numbers, ok := readNumbers(words[1:])
	if !ended || !ok {
		return nil, false
	}
	if words[0] == layoutWord && len(numbers) == 1 {
		return append(plan, api.Layout{Board: numbers[0]}), true
	}
	c, ok := readCut(words[0], numbers)
	if !ok || len(plan) == 0 {
		return nil, false
	}
	l := &plan[len(plan)-1]
	l.Cuts = append(l.Cuts, c)
	return plan, true
}

// readCut returns the region of a line, or false if the line is wrong.
func readCut(word string, n []int) (api.Cut, bool) {
	switch {
	case word == wasteWord && len(n) == 0:
		return api.Cut{Blank: -1}, true
	case word == pieceWord && len(n) == 1:
		return api.Cut{Blank: n[0]}, true
	case (word == acrossWord || word == alongWord) && len(n) == 3 && n[1] != 0:
		return api.Cut{Across: word == acrossWord, At: n[0], Low: n[1], High: n[2]}, true
	}
	return api.Cut{}, false
}

// readNumbers returns the numbers that words are, or false if one is none.
func readNumbers(words []string) ([]int, bool) {
	var numbers []int
	for _, word := range words {
		n, err := strconv.Atoi(word)
		if err != nil || strconv.Itoa(n) != word || !within(0, maxNumber, n) {
			return nil, false
		}
		numbers = append(numbers, n)
	}
	return numbers, true
}
