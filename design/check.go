package design

import (
	"slices"

	"spokeshave/api"
	"spokeshave/joint"
)

// Check returns the error of a design.
func Check(d api.Design) api.Errno {
	_, e := sheetOf(d)
	return e
}

// sheet is a design that was looked at: its expressions by their plain texts, and the numbers of its parameters, parts and groups by their names.
type sheet struct {
	design                api.Design
	exprs                 map[string]api.Expr
	params, parts, groups map[string]int
}

// sheetOf returns the sheet of a design, if it has no error. The sheet shares memory with the design.
func sheetOf(d api.Design) (*sheet, api.Errno) {
	s := &sheet{design: d, exprs: map[string]api.Expr{}}
	for _, check := range []func() api.Errno{
		s.checkHead, s.checkParams, s.checkCircles, s.checkParts, s.checkTies, s.checkSpaces, s.checkGroups,
	} {
		if e := check(); e != api.OK {
			return nil, e
		}
	}
	return s, api.OK
}

// numbersOf returns the numbers of the elements of a list by their names; of equal names the first one counts.
func numbersOf[T any](l []T, nameOf func(T) string) map[string]int {
	numbers := map[string]int{}
	for i, x := range l {
		if _, found := numbers[nameOf(x)]; !found {
			numbers[nameOf(x)] = i
		}
	}
	return numbers
}

func (s *sheet) checkHead() api.Errno {
	d := s.design
	switch {
	case !isName(d.Name):
		return api.ErrName
	case len(d.Params) > api.MaxParams, len(d.Parts) > api.MaxRows, len(d.Ties) > api.MaxTies,
		len(d.Spaces) > api.MaxSpaces, len(d.Groups) > api.MaxGroups:
		return api.ErrLarge
	}
	return api.OK
}

func (s *sheet) checkParams() api.Errno {
	s.params = numbersOf(s.design.Params, func(p api.Param) string { return p.Name })
	for i, p := range s.design.Params {
		switch {
		case !isParam(p.Name):
			return api.ErrName
		case s.params[p.Name] != i:
			return api.ErrExists
		}
		if e := s.checkTexts(p.Text); e != api.OK {
			return e
		}
	}
	return api.OK
}

// checkTexts returns the error of the first text that has one, and keeps the expressions.
func (s *sheet) checkTexts(texts ...string) api.Errno {
	for _, text := range texts {
		if _, known := s.exprs[text]; known {
			continue
		}
		x, plain, e := readExpr(text)
		switch {
		case e != api.OK:
			return e
		case plain != text:
			return api.ErrSyntax
		}
		for _, name := range namesIn(x) {
			if _, found := s.params[name]; !found {
				return api.ErrMissing
			}
		}
		s.exprs[text] = x
	}
	return api.OK
}

func (s *sheet) checkCircles() api.Errno {
	for _, p := range s.design.Params {
		if s.used(p.Text)[p.Name] {
			return api.ErrCycle
		}
	}
	return api.OK
}

func (s *sheet) checkParts() api.Errno {
	s.parts = numbersOf(s.design.Parts, func(r api.Row) string { return r.Name })
	for i, r := range s.design.Parts {
		switch {
		case !isName(r.Name), !isName(r.Species), isLoose(r.Name):
			return api.ErrName
		case s.parts[r.Name] != i:
			return api.ErrExists
		case r.Grain < 0, r.Grain > lastGrain:
			return api.ErrRange
		}
		if e := s.checkTexts(rowTexts(r)...); e != api.OK {
			return e
		}
	}
	return api.OK
}

func (s *sheet) checkTies() api.Errno {
	for _, t := range s.design.Ties {
		if e := s.checkTie(t); e != api.OK {
			return e
		}
	}
	return api.OK
}

func (s *sheet) checkTie(t api.Tie) api.Errno {
	kind, e := joint.KindOf(t.Kind)
	if e != api.OK {
		return api.ErrKind
	}
	if members, e := joint.Members(kind); e != api.OK || len(t.Parts) != members {
		return api.ErrShape
	}
	if e := s.checkMembers(t.Parts); e != api.OK {
		return e
	}
	switch {
	case t.Turn < 0, t.Turn >= countTurns:
		return api.ErrRange
	case len(t.Numbers) > api.MaxNumbers:
		return api.ErrLarge
	}
	return s.checkTexts(tieTexts(t)...)
}

// checkMembers returns the error of a list of parts.
func (s *sheet) checkMembers(names []string) api.Errno {
	for i := range len(names) {
		if _, found := s.parts[names[i]]; !found {
			return api.ErrMissing
		}
		if slices.Contains(names[:i], names[i]) {
			return api.ErrExists
		}
	}
	return api.OK
}

func (s *sheet) checkSpaces() api.Errno {
	for _, space := range s.design.Spaces {
		if space.Kind != toFill && space.Kind != toClear {
			return api.ErrKind
		}
		if e := s.checkTexts(slices.Concat(space.At[:], space.Size[:])...); e != api.OK {
			return e
		}
	}
	return api.OK
}

func (s *sheet) checkGroups() api.Errno {
	s.groups = numbersOf(s.design.Groups, func(g api.Group) string { return g.Name })
	for i, g := range s.design.Groups {
		switch {
		case !isName(g.Name):
			return api.ErrName
		case s.groups[g.Name] != i:
			return api.ErrExists
		case len(g.Parts) > api.MaxRows:
			return api.ErrLarge
		}
		if e := s.checkMembers(g.Parts); e != api.OK {
			return e
		}
	}
	return api.OK
}
