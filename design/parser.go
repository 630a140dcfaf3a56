package design

import (
	"slices"
	"strings"

	"spokeshave/api"
)

const commentSign = "#"

// The forms of lines: the first word, and those that divide the line.
const (
	paramForm   = paramWord + " " + isWord
	partForm    = partWord + " " + atWord + " " + sizeWord
	tieForm     = tieWord + " " + turnWord + " " + atWord + " " + sizeWord
	tieWithForm = tieForm + " " + withWord
	fillForm    = fillWord + " " + sizeWord
	clearForm   = clearWord + " " + sizeWord
)

// Parse returns the design of a text; or an error and, if a line is wrong, its number.
func Parse(s string) (api.Design, int, api.Errno) {
	if len(s) > api.MaxText {
		return api.Design{}, 0, api.ErrLarge
	}
	var p parser
	for i, line := range strings.Split(s, "\n") {
		line, _, _ = strings.Cut(line, commentSign)
		words := strings.FieldsFunc(line, func(c rune) bool { return c == ' ' })
		if len(words) > 0 && !p.read(words) {
			return api.Design{}, i + 1, api.ErrSyntax
		}
	}
	if !p.begun {
		return api.Design{}, 1, api.ErrSyntax
	}
	if e := Check(p.design); e != api.OK {
		return api.Design{}, 0, e
	}
	return p.design, 0, api.OK
}

// parser keeps what it has read of the text of a design. Its methods report whether what they read is right.
type parser struct {
	design api.Design
	begun  bool
}

// read reads the words of a line.
func (p *parser) read(words []string) bool {
	form, clauses := divided(words)
	head := clauses[0]
	if !p.begun {
		p.begun = true
		return form == designWord && p.readName(head)
	}
	switch form {
	case paramForm:
		return p.readParam(head, clauses[1])
	case partForm:
		return p.readPart(head, clauses[1], clauses[2])
	case tieForm:
		return p.readTie(head, clauses[1:], false)
	case tieWithForm:
		return p.readTie(head, clauses[1:], true)
	case fillForm:
		return p.readSpace(toFill, head, clauses[1])
	case clearForm:
		return p.readSpace(toClear, head, clauses[1])
	case groupWord:
		return p.readGroup(head)
	}
	return false
}

// divided returns the form of a line, and its words ahead of and behind those that divide it.
func divided(words []string) (string, [][]string) {
	form := words[0]
	clauses := [][]string{nil}
	for _, word := range words {
		if isDivider(word) {
			form += " " + word
			clauses = append(clauses, nil)
			continue
		}
		last := len(clauses) - 1
		clauses[last] = append(clauses[last], word)
	}
	return form, clauses
}

func (p *parser) readName(head []string) bool {
	if len(head) != 2 {
		return false
	}
	p.design.Name = head[1]
	return true
}

func (p *parser) readParam(head, text []string) bool {
	texts, ok := readTexts(text)
	if !ok || len(head) != 2 || len(texts) != 1 {
		return false
	}
	p.design.Params = append(p.design.Params, api.Param{Name: head[1], Text: texts[0]})
	return true
}

func (p *parser) readPart(head, at, size []string) bool {
	if len(head) != 4 {
		return false
	}
	r := api.Row{Name: head[1], Species: head[2]}
	var ok bool
	if r.Grain, ok = readNumber(head[3]); !ok {
		return false
	}
	if r.At, r.Size, ok = readPlace(at, size); !ok {
		return false
	}
	p.design.Parts = append(p.design.Parts, r)
	return true
}

// readTie reads the clauses of turn, at and size, and that of with, if there is one.
func (p *parser) readTie(head []string, clauses [][]string, with bool) bool {
	if len(head) != 4 && len(head) != 5 || len(clauses[0]) != 1 {
		return false
	}
	t := api.Tie{Kind: head[1], Parts: slices.Clone(head[2:])}
	var ok bool
	if t.Turn, ok = readNumber(clauses[0][0]); !ok {
		return false
	}
	if t.At, t.Size, ok = readPlace(clauses[1], clauses[2]); !ok {
		return false
	}
	if with {
		if t.Numbers, ok = readTexts(clauses[3]); !ok {
			return false
		}
	}
	p.design.Ties = append(p.design.Ties, t)
	return true
}

func (p *parser) readSpace(kind int, head, size []string) bool {
	s := api.Space{Kind: kind}
	var ok bool
	if s.At, s.Size, ok = readPlace(head[1:], size); !ok {
		return false
	}
	p.design.Spaces = append(p.design.Spaces, s)
	return true
}

func (p *parser) readGroup(head []string) bool {
	if len(head) < 2 {
		return false
	}
	p.design.Groups = append(p.design.Groups, api.Group{Name: head[1], Parts: slices.Clone(head[2:])})
	return true
}

// readPlace returns the texts of a place and of sizes.
func readPlace(at, size []string) (a, s [3]string, ok bool) {
	first, ok := readTexts(at)
	if !ok || len(first) != len(a) {
		return a, s, false
	}
	second, ok := readTexts(size)
	if !ok || len(second) != len(s) {
		return a, s, false
	}
	return [3]string(first), [3]string(second), true
}

// readTexts returns the plain texts of the expressions of a clause.
func readTexts(clause []string) ([]string, bool) {
	var texts []string
	for _, text := range splitList(spaced(clause...)) {
		_, plain, e := readExpr(strings.Trim(text, " "))
		if e != api.OK {
			return nil, false
		}
		texts = append(texts, plain)
	}
	return texts, true
}

// splitList returns the texts between the commas that are not within brackets.
func splitList(text string) []string {
	var texts []string
	depth, from := 0, 0
	for i := range len(text) {
		switch text[i] {
		case '(':
			depth++
		case ')':
			depth--
		case ',':
			if depth == 0 {
				texts = append(texts, text[from:i])
				from = i + 1
			}
		}
	}
	return append(texts, text[from:])
}
