package assembly

import (
	"slices"
	"strconv"
	"strings"

	"spokeshave/api"
)

const (
	maxSplits = 100 // of a text
	maxNumber = 99  // of a part in a text
)

// Print returns the text of splits.
func Print(p []api.Split) (string, api.Errno) {
	if len(p) > maxSplits {
		return "", api.ErrLarge
	}
	var text strings.Builder
	for _, s := range p {
		if e := checkPrint(s); e != api.OK {
			return "", e
		}
		way := []int{s.Way.X, s.Way.Y, s.Way.Z}
		text.WriteString(join(s.Group, ",") + " " + join(s.Out, ",") + " " + join(way, " ") + "\n")
	}
	return text.String(), api.OK
}

// checkPrint tells why a split has no text.
func checkPrint(s api.Split) api.Errno {
	if len(s.Group) == 0 || len(s.Out) == 0 {
		return api.ErrEmpty
	}
	for _, n := range slices.Concat(s.Group, s.Out) {
		if n < 0 || n > maxNumber {
			return api.ErrRange
		}
	}
	if len(s.Group) > api.MaxPieces || len(s.Out) > api.MaxPieces {
		return api.ErrLarge
	}
	return checkWay(s.Way)
}

// join returns numbers with something between them.
func join(numbers []int, between string) string {
	words := make([]string, 0, len(numbers))
	for _, n := range numbers {
		words = append(words, strconv.Itoa(n))
	}
	return strings.Join(words, between)
}

// Parse returns the splits of a text.
func Parse(t string) ([]api.Split, api.Errno) {
	if len(t) > api.MaxText {
		return nil, api.ErrLarge
	}
	var p []api.Split
	for line := range strings.Lines(t) {
		s, ok := readSplit(strings.TrimSuffix(line, "\n"))
		if !ok {
			return nil, api.ErrSyntax
		}
		p = append(p, s)
	}
	// What is read may be written in other ways than Print writes it.
	if again, e := Print(p); e != api.OK || again != t {
		return nil, api.ErrSyntax
	}
	return p, api.OK
}

// readSplit returns the split of a line, or false if it has no numbers where they are to be.
func readSplit(line string) (api.Split, bool) {
	words := strings.Split(line, " ")
	if len(words) != 5 {
		return api.Split{}, false
	}
	group, isGroup := readNumbers(strings.Split(words[0], ","))
	out, isOut := readNumbers(strings.Split(words[1], ","))
	way, isWay := readNumbers(words[2:])
	if !isGroup || !isOut || !isWay {
		return api.Split{}, false
	}
	return api.Split{Group: group, Out: out, Way: api.Way{X: way[0], Y: way[1], Z: way[2]}}, true
}

// readNumbers returns the numbers that words are, or false if one is none.
func readNumbers(words []string) ([]int, bool) {
	numbers := make([]int, 0, len(words))
	for _, word := range words {
		n, err := strconv.Atoi(word)
		if err != nil {
			return nil, false
		}
		numbers = append(numbers, n)
	}
	return numbers, true
}
