package joint

import (
	"slices"
	"strconv"
	"strings"

	"spokeshave/api"
)

const maxDigits = 7 // of a number

// Print returns the text of a joint.
func Print(j api.Joint) (string, api.Errno) {
	if e := Check(j); e != api.OK {
		return "", e
	}
	text := []byte(kinds[j.Kind].name)
	for _, n := range slices.Concat(j.Size[:], j.Numbers) {
		text = append(text, ' ')
		text = strconv.AppendInt(text, int64(n), 10)
	}
	return string(text), api.OK
}

// Parse returns the joint of a text.
func Parse(s string) (api.Joint, api.Errno) {
	if len(s) > api.MaxText {
		return api.Joint{}, api.ErrLarge
	}
	words := strings.Split(s, " ")
	kind, e := KindOf(words[0])
	if e != api.OK {
		return api.Joint{}, api.ErrSyntax
	}
	numbers, ok := readNumbers(words[1:])
	if !ok || len(numbers) < 3 {
		return api.Joint{}, api.ErrSyntax
	}
	j := api.Joint{Kind: kind, Size: [3]int(numbers[:3]), Numbers: numbers[3:]}
	if e := Check(j); e != api.OK {
		return api.Joint{}, e
	}
	return j, api.OK
}

func readNumbers(words []string) ([]int, bool) {
	var numbers []int
	for _, word := range words {
		n, err := strconv.Atoi(word)
		if err != nil || strconv.Itoa(n) != word || len(strings.TrimPrefix(word, "-")) > maxDigits {
			return nil, false
		}
		numbers = append(numbers, n)
	}
	return numbers, true
}
