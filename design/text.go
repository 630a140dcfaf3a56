package design

import (
	"slices"
	"strconv"
	"strings"

	"spokeshave/api"
)

// Lines begin with these words.
const (
	designWord = "design"
	paramWord  = "param"
	partWord   = "part"
	tieWord    = "tie"
	fillWord   = "fill"
	clearWord  = "clear"
	groupWord  = "group"
)

// Print returns the text of a design.
func Print(d api.Design) (string, api.Errno) {
	if e := Check(d); e != api.OK {
		return "", e
	}
	lines := []string{spaced(designWord, d.Name)}
	for _, p := range d.Params {
		lines = append(lines, spaced(paramWord, p.Name, isWord, p.Text))
	}
	for _, r := range d.Parts {
		lines = append(lines, spaced(partWord, r.Name, r.Species, strconv.Itoa(r.Grain), atWord, list(r.At[:]), sizeWord, list(r.Size[:])))
	}
	for _, t := range d.Ties {
		lines = append(lines, tieLine(t))
	}
	for _, s := range d.Spaces {
		lines = append(lines, spaced(spaceWord(s.Kind), list(s.At[:]), sizeWord, list(s.Size[:])))
	}
	for _, g := range d.Groups {
		lines = append(lines, spaced(slices.Concat([]string{groupWord, g.Name}, g.Parts)...))
	}
	text := strings.Join(lines, "\n") + "\n"
	if len(text) > api.MaxText {
		return "", api.ErrLarge
	}
	return text, api.OK
}

func tieLine(t api.Tie) string {
	l := slices.Concat([]string{tieWord, t.Kind}, t.Parts)
	l = append(l, turnWord, strconv.Itoa(t.Turn), atWord, list(t.At[:]), sizeWord, list(t.Size[:]))
	if len(t.Numbers) > 0 {
		l = append(l, withWord, list(t.Numbers))
	}
	return spaced(l...)
}

// spaceWord returns the word of spaces of a kind.
func spaceWord(kind int) string {
	if kind == toClear {
		return clearWord
	}
	return fillWord
}

// spaced returns what words make with single blanks between them.
func spaced(l ...string) string {
	return strings.Join(l, " ")
}

// list returns the text of some expressions.
func list(texts []string) string {
	return strings.Join(texts, ", ")
}
