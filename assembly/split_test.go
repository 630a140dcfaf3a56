package assembly_test

import (
	"math/rand/v2"
	"slices"
	"testing"

	"spokeshave/api"
	"spokeshave/assembly"
)

// literalFirst returns the first split of a group, by the definition.
func literalFirst(b table, group []int) (api.Split, bool) {
	for _, w := range allWays() {
		for _, part := range group {
			if out := b.carried(part, group, w); len(out) < len(group) {
				return api.Split{Group: group, Out: out, Way: w}, true
			}
		}
	}
	return api.Split{}, false
}

// P4.4: the first split of a group, with the second example.
func TestFirst(t *testing.T) {
	want := api.Split{Group: []int{0, 1}, Out: []int{0}, Way: api.Way{X: -1, Y: -1, Z: -1}}
	if s, ok, e := assembly.First(pair(t), []int{0, 1}); !alike(s, want) || !ok || e != api.OK {
		t.Errorf("pair: %v, %t, %d", s, ok, e)
	}
	// The first part may carry all where the second one does not.
	want = api.Split{Group: []int{0, 1}, Out: []int{1}, Way: api.Way{X: -1, Y: -1, Z: -1}}
	if s, ok, e := assembly.First([]api.Solid{box(t, 2, 0, 0, 4, 2, 2), box(t, 0, 0, 0, 2, 2, 2)}, []int{0, 1}); !alike(s, want) || !ok || e != api.OK {
		t.Errorf("pair backwards: %v, %t, %d", s, ok, e)
	}
	for _, group := range [][]int{nil, {0}, {1}} {
		if s, ok, e := assembly.First(pair(t), group); !alike(s, api.Split{}) || ok || e != api.OK {
			t.Errorf("%v: %v, %t, %d", group, s, ok, e)
		}
	}
	if s, ok, e := assembly.First(shell(t), []int{0, 1}); !alike(s, api.Split{}) || ok || e != api.OK {
		t.Errorf("shell: %v, %t, %d", s, ok, e)
	}
	random := steadily(41)
	count := map[bool]int{}
	for _, l := range samples(t, 41, 4, 7) {
		b := tableOf(t, l)
		for _, group := range [][]int{upTo(len(l)), subset(random, upTo(len(l))), subset(random, upTo(len(l)))} {
			s, ok, e := assembly.First(l, group)
			if want, is := literalFirst(b, group); !alike(s, want) || ok != is || e != api.OK {
				t.Errorf("%v of %v: %v, %t, %d, want %v", group, l, s, ok, e, want)
			}
			count[ok && len(s.Out) > 1]++
		}
	}
	if count[true] < 5 {
		t.Errorf("only %d splits with several parts", count[true])
	}
}

// P4.4: the error of the set.
func TestFirstErrors(t *testing.T) {
	for want, lists := range wrongSets() {
		for _, group := range lists {
			if s, ok, e := assembly.First(row(t, 3), group); !alike(s, api.Split{}) || ok || e != want {
				t.Errorf("%v: %v, %t, %d, want %d", group, s, ok, e, want)
			}
		}
	}
}

// separable tells, by the definition, whether there is a plan: whether each group that a split leaves can be taken apart. A split that can be made is never wrong.
func separable(b table, group []int) bool {
	if len(group) < 2 {
		return true
	}
	for _, w := range allWays() {
		for _, out := range subsets(group) {
			if len(out) > 0 && len(out) < len(group) && b.moves(out, group, w) {
				return separable(b, out) && separable(b, without(group, out))
			}
		}
	}
	return false
}

// P4.5, P4.10: there is a plan, or a locked cluster, never both; both are accepted.
func TestPlan(t *testing.T) {
	count := map[bool]int{}
	for _, l := range append(samples(t, 42, 12, 10), shellInRow(t), row(t, 12), nil, row(t, 1)) {
		p, c, e := assembly.Plan(l)
		b := tableOf(t, l)
		is := separable(b, upTo(len(l)))
		count[is]++
		switch {
		case is && (e != api.OK || !alike(c, api.Locked{})):
			t.Errorf("%v: %v, %v, %d, but there is a plan", l, p, c, e)
		case is:
			if e := literalPlan(b, len(l), p); e != api.OK {
				t.Errorf("%v: %v: %d", l, p, e)
			}
			if e := assembly.CheckPlan(l, p); e != api.OK {
				t.Errorf("%v: %v is refused: %d", l, p, e)
			}
		default:
			if e != api.ErrLocked || p != nil {
				t.Errorf("%v: %v, %d, but there is no plan", l, p, e)
			}
			if e := literalLocked(b, len(l), c); e != api.OK {
				t.Errorf("%v: %v: %d", l, c, e)
			}
			if e := assembly.CheckLocked(l, c); e != api.OK {
				t.Errorf("%v: %v is refused: %d", l, c, e)
			}
		}
	}
	if count[true] < 15 || count[false] < 15 {
		t.Errorf("%v", count)
	}
}

// P4.5: the examples 2 and 4, one part, and none.
func TestPlanExamples(t *testing.T) {
	p, c, e := assembly.Plan(pair(t))
	if len(p) != 1 || !slices.Equal(p[0].Group, []int{0, 1}) || !alike(c, api.Locked{}) || e != api.OK {
		t.Errorf("pair: %v, %v, %d", p, c, e)
	}
	p, c, e = assembly.Plan(shell(t))
	if len(p) != 0 || !slices.Equal(c.Cluster, []int{0, 1}) || len(c.Walks) != 26 || e != api.ErrLocked {
		t.Errorf("shell: %v, %v, %d", p, c, e)
	}
	for i, w := range c.Walks {
		if !slices.Equal(w, []int{0, 1}) && !slices.Equal(w, []int{1, 0}) {
			t.Errorf("walk %d of the shell: %v", i, w)
		}
	}
	// The locked cluster need not be all parts.
	if _, c, e := assembly.Plan(shellInRow(t)); !slices.Equal(c.Cluster, []int{1, 3}) || e != api.ErrLocked {
		t.Errorf("a shell in a row: %v, %d", c, e)
	}
	for n := range 2 {
		if p, c, e := assembly.Plan(row(t, n)); len(p) != 0 || !alike(c, api.Locked{}) || e != api.OK {
			t.Errorf("%d parts: %v, %v, %d", n, p, c, e)
		}
	}
}

// literalSet returns the error of a set of some of count parts.
func literalSet(list []int, count int) api.Errno {
	if slices.ContainsFunc(list, func(part int) bool { return !slices.Contains(upTo(count), part) }) {
		return api.ErrMissing
	}
	if !slices.Equal(list, slices.Compact(slices.Sorted(slices.Values(list)))) {
		return api.ErrOrder
	}
	return api.OK
}

// literalPlan checks a plan, by the definition.
func literalPlan(b table, count int, p []api.Split) api.Errno {
	if len(p) != count-1 && (count > 0 || len(p) > 0) {
		return api.ErrShape
	}
	groups := [][]int{upTo(count)}
	for _, s := range p {
		_, e := assembly.Opposite(s.Way)
		for _, e := range []api.Errno{literalSet(s.Group, count), literalSet(s.Out, count), e} {
			if e != api.OK {
				return e
			}
		}
		at := slices.IndexFunc(groups, func(group []int) bool { return slices.Equal(group, s.Group) })
		rest := without(s.Group, s.Out)
		switch {
		case at < 0:
			return api.ErrState
		case len(s.Out) == 0, len(rest) == 0, len(s.Out)+len(rest) != len(s.Group):
			return api.ErrForm
		case !b.moves(s.Out, s.Group, s.Way):
			return api.ErrBlocked
		}
		groups = append(slices.Delete(groups, at, at+1), s.Out, rest)
	}
	return api.OK
}

// P4.5: what is no plan, and which of several errors comes first.
func TestCheckPlan(t *testing.T) {
	x := api.Way{X: 1}
	last := api.Split{Group: []int{0, 1, 2}, Out: []int{2}, Way: x}
	next := api.Split{Group: []int{0, 1}, Out: []int{1}, Way: x}
	for name, c := range map[string]struct {
		p    []api.Split
		want api.Errno
	}{
		"a plan":                         {[]api.Split{last, next}, api.OK},
		"two move out":                   {[]api.Split{{Group: []int{0, 1, 2}, Out: []int{1, 2}, Way: x}, {Group: []int{1, 2}, Out: []int{2}, Way: x}}, api.OK},
		"in other ways":                  {[]api.Split{{Group: []int{0, 1, 2}, Out: []int{1}, Way: api.Way{Z: -1}}, {Group: []int{0, 2}, Out: []int{0}, Way: api.Way{Y: 1}}}, api.OK},
		"none":                           {nil, api.ErrShape},
		"too short":                      {[]api.Split{last}, api.ErrShape},
		"too long":                       {[]api.Split{last, next, next}, api.ErrShape},
		"wrong, and too long":            {make([]api.Split, 3), api.ErrShape},
		"no such part":                   {[]api.Split{{Group: []int{0, 3}, Out: []int{1, 0}}, next}, api.ErrMissing},
		"a part below 0":                 {[]api.Split{{Group: []int{-1}}, next}, api.ErrMissing},
		"missing ahead of order":         {[]api.Split{{Group: []int{1, 0, 3}}, next}, api.ErrMissing},
		"order":                          {[]api.Split{{Group: []int{0, 2, 1}, Out: []int{3}}, next}, api.ErrOrder},
		"a part twice":                   {[]api.Split{{Group: []int{0, 1, 1, 2}, Out: []int{2}, Way: x}, next}, api.ErrOrder},
		"no such part in Out":            {[]api.Split{{Group: []int{0, 1}, Out: []int{5}, Way: api.Way{X: 2}}, next}, api.ErrMissing},
		"order of Out":                   {[]api.Split{{Group: []int{0, 1}, Out: []int{1, 0}, Way: api.Way{X: 2}}, next}, api.ErrOrder},
		"way":                            {[]api.Split{{Group: []int{0, 1}, Out: []int{2}, Way: api.Way{X: 2}}, next}, api.ErrRange},
		"no way":                         {[]api.Split{{Group: []int{0, 1}, Out: []int{2}}, next}, api.ErrZero},
		"no such group":                  {[]api.Split{{Group: []int{0, 1}, Out: []int{2}, Way: x}, next}, api.ErrState},
		"a group that is gone":           {[]api.Split{last, last}, api.ErrState},
		"the empty group":                {[]api.Split{{Way: x}, next}, api.ErrState},
		"nothing out":                    {[]api.Split{{Group: []int{0, 1, 2}, Way: x}, next}, api.ErrForm},
		"all out":                        {[]api.Split{{Group: []int{0, 1, 2}, Out: []int{0, 1, 2}, Way: x}, next}, api.ErrForm},
		"out of another group":           {[]api.Split{last, {Group: []int{0, 1}, Out: []int{2}, Way: x}}, api.ErrForm},
		"partly out of another group":    {[]api.Split{last, {Group: []int{0, 1}, Out: []int{1, 2}, Way: x}}, api.ErrForm},
		"of a single part":               {[]api.Split{last, {Group: []int{2}, Out: []int{2}, Way: x}}, api.ErrForm},
		"of the rest, a single part":     {[]api.Split{{Group: []int{0, 1, 2}, Out: []int{1, 2}, Way: x}, {Group: []int{0}, Way: x}}, api.ErrForm},
		"blocked":                        {[]api.Split{{Group: []int{0, 1, 2}, Out: []int{1}, Way: x}, next}, api.ErrBlocked},
		"blocked, ahead of later errors": {[]api.Split{{Group: []int{0, 1, 2}, Out: []int{0, 2}, Way: x}, {Group: []int{3}}}, api.ErrBlocked},
		"blocked later":                  {[]api.Split{last, {Group: []int{0, 1}, Out: []int{0}, Way: x}}, api.ErrBlocked},
	} {
		if e := assembly.CheckPlan(row(t, 3), c.p); e != c.want {
			t.Errorf("%s: %d, want %d", name, e, c.want)
		}
	}
	for n := range 2 {
		if e := assembly.CheckPlan(row(t, n), nil); e != api.OK {
			t.Errorf("%d parts: %d", n, e)
		}
		if e := assembly.CheckPlan(row(t, n), []api.Split{last}); e != api.ErrShape {
			t.Errorf("%d parts and a split: %d", n, e)
		}
	}
}

// spoiled returns a plan with a random change.
func spoiled(random *rand.Rand, p []api.Split, count int) []api.Split {
	var q []api.Split
	for _, s := range p {
		q = append(q, api.Split{Group: slices.Clone(s.Group), Out: slices.Clone(s.Out), Way: s.Way})
	}
	if len(q) == 0 {
		return q
	}
	s := &q[random.IntN(len(q))]
	switch random.IntN(8) {
	case 0:
		s.Way = allWays()[random.IntN(26)]
	case 1:
		s.Out = subset(random, s.Group)
	case 2:
		s.Out = without(s.Group, s.Out)
	case 3:
		s.Group[random.IntN(len(s.Group))] = number(random, -1, count)
	case 4:
		s.Out[random.IntN(len(s.Out))] = number(random, -1, count)
	case 5:
		s.Way.Y = number(random, -2, 2)
	case 6:
		q[0], q[len(q)-1] = q[len(q)-1], q[0]
	default:
		*s = api.Split{Group: subset(random, upTo(count)), Out: subset(random, upTo(count)), Way: s.Way}
	}
	return q
}

// P4.5: random changes of plans are judged as the definition says it.
func TestCheckPlanLiterally(t *testing.T) {
	random := steadily(43)
	count := map[api.Errno]int{}
	for _, l := range samples(t, 43, 6, 7) {
		p, _, e := assembly.Plan(l)
		if e != api.OK {
			continue
		}
		b := tableOf(t, l)
		for range 40 {
			q := spoiled(random, p, len(l))
			e := assembly.CheckPlan(l, q)
			if want := literalPlan(b, len(l), q); e != want {
				t.Fatalf("%v: %v: %d, want %d", l, q, e, want)
			}
			count[e]++
		}
	}
	for _, e := range []api.Errno{api.OK, api.ErrMissing, api.ErrOrder, api.ErrRange, api.ErrState, api.ErrForm, api.ErrBlocked} {
		if count[e] < 10 {
			t.Errorf("error %d came %d times", e, count[e])
		}
	}
}

// P4.5: the splits of a plan in the opposite order, with the opposite ways.
func TestManual(t *testing.T) {
	l := row(t, 3)
	p := []api.Split{{Group: []int{0, 1, 2}, Out: []int{2}, Way: api.Way{X: 1, Z: -1}}, {Group: []int{0, 1}, Out: []int{1}, Way: api.Way{Y: 1}}}
	want := []api.Split{{Group: []int{0, 1}, Out: []int{1}, Way: api.Way{Y: -1}}, {Group: []int{0, 1, 2}, Out: []int{2}, Way: api.Way{X: -1, Z: 1}}}
	if m, e := assembly.Manual(l, p); !alike(m, want) || e != api.OK {
		t.Errorf("row: %v, %d", m, e)
	}
	if m, e := assembly.Manual(row(t, 1), nil); len(m) != 0 || e != api.OK {
		t.Errorf("a part: %v, %d", m, e)
	}
	random := steadily(44)
	for _, l := range samples(t, 44, 2, 7) {
		p, _, e := assembly.Plan(l)
		if e != api.OK {
			continue
		}
		for range 10 {
			q := spoiled(random, p, len(l))
			m, e := assembly.Manual(l, q)
			if want := assembly.CheckPlan(l, q); e != want || e != api.OK && m != nil {
				t.Fatalf("%v: %v: %v, %d, want %d", l, q, m, e, want)
			}
		}
	}
}
