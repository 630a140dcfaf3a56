package design

import (
	"maps"
	"slices"
	"strconv"

	"spokeshave/api"
)

// Values returns the values of the parameters of a design.
func Values(d api.Design) ([]int, api.Errno) {
	s, e := sheetOf(d)
	if e != api.OK {
		return nil, e
	}
	values, e := s.values()
	if e != api.OK {
		return nil, e
	}
	return s.listed(values), api.OK
}

// Set returns a design in which the expression of a parameter is a number.
func Set(d api.Design, name string, value int) (api.Design, api.Errno) {
	s, e := sheetOf(d)
	if e != api.OK {
		return api.Design{}, e
	}
	number, found := s.params[name]
	if !found {
		return api.Design{}, api.ErrMissing
	}
	if value < -api.MaxValue || value > api.MaxValue {
		return api.Design{}, api.ErrRange
	}
	set := copied(d)
	set.Params[number].Text = strconv.Itoa(value)
	return set, api.OK
}

// Uses returns the parameters that the texts of a part use, ascending.
func Uses(d api.Design, piece string) ([]string, api.Errno) {
	s, e := sheetOf(d)
	if e != api.OK {
		return nil, e
	}
	number, found := s.parts[piece]
	if !found {
		return nil, api.ErrMissing
	}
	return slices.Sorted(maps.Keys(s.used(s.partTexts(number)...))), api.OK
}

// Dependents returns the parts whose texts use a parameter, in their order.
func Dependents(d api.Design, param string) ([]string, api.Errno) {
	s, e := sheetOf(d)
	if e != api.OK {
		return nil, e
	}
	if _, found := s.params[param]; !found {
		return nil, api.ErrMissing
	}
	var names []string
	for i, r := range d.Parts {
		if s.used(s.partTexts(i)...)[param] {
			names = append(names, r.Name)
		}
	}
	return names, api.OK
}

// Members returns the parts of a group.
func Members(d api.Design, group string) ([]string, api.Errno) {
	s, e := sheetOf(d)
	if e != api.OK {
		return nil, e
	}
	number, found := s.groups[group]
	if !found {
		return nil, api.ErrMissing
	}
	return slices.Clone(d.Groups[number].Parts), api.OK
}

// values returns the values of all parameters by their names.
func (s *sheet) values() (map[string]int, api.Errno) {
	known := map[string]int{}
	var valueOf ask
	valueOf = func(name string) (int, api.Errno) {
		if n, found := known[name]; found {
			return n, api.OK
		}
		n, e := evaluate(s.exprs[s.textOf(name)], valueOf)
		if e == api.OK {
			known[name] = n
		}
		return n, e
	}
	for _, p := range s.design.Params {
		if _, e := valueOf(p.Name); e != api.OK {
			return nil, e
		}
	}
	return known, api.OK
}

// listed returns the values of the parameters in their order.
func (s *sheet) listed(values map[string]int) []int {
	var l []int
	for _, p := range s.design.Params {
		l = append(l, values[p.Name])
	}
	return l
}

// textOf returns the expression of a parameter.
func (s *sheet) textOf(param string) string {
	return s.design.Params[s.params[param]].Text
}

// partTexts returns the texts of a part: those of its row and of its ties.
func (s *sheet) partTexts(number int) []string {
	r := s.design.Parts[number]
	texts := rowTexts(r)
	for _, tie := range s.tiesOf(r.Name) {
		texts = append(texts, tieTexts(s.design.Ties[tie])...)
	}
	return texts
}

// tiesOf returns the numbers of the ties of which a part is a member.
func (s *sheet) tiesOf(part string) []int {
	var numbers []int
	for i, t := range s.design.Ties {
		if slices.Contains(t.Parts, part) {
			numbers = append(numbers, i)
		}
	}
	return numbers
}

// named returns the parameters that texts name, ascending, each once.
func (s *sheet) named(texts []string) []string {
	found := map[string]bool{}
	for _, text := range texts {
		addNames(s.exprs[text], found)
	}
	return slices.Sorted(maps.Keys(found))
}

// used returns the parameters that texts name, and those that their expressions use.
func (s *sheet) used(texts ...string) map[string]bool {
	found := map[string]bool{}
	for names := s.named(texts); len(names) > 0; names = names[1:] {
		if name := names[0]; !found[name] {
			found[name] = true
			names = append(names, s.named([]string{s.textOf(name)})...)
		}
	}
	return found
}
