package design_test

import (
	"math"
	"math/big"
	"math/rand/v2"
	"slices"
	"strconv"
	"strings"
	"testing"

	"spokeshave/api"
	"spokeshave/design"
)

func num(n int) api.Expr { return api.Expr{Kind: api.ExprNumber, Number: n} }

func name(s string) api.Expr { return api.Expr{Kind: api.ExprName, Name: s} }

func op(kind int, parts ...api.Expr) api.Expr { return api.Expr{Kind: kind, Parts: parts} }

// anyExpr returns an expression with operations up to a depth.
func anyExpr(random *rand.Rand, depth int) api.Expr {
	kind := number(random, api.ExprNumber, api.ExprMax)
	if depth == 0 {
		kind = random.IntN(2)
	}
	switch kind {
	case api.ExprNumber:
		return num(anyOf(random, []int{0, 1, 2, 7, 10, 99, 12345, 100000000, 999999999}))
	case api.ExprName:
		return name(anyOf(random, []string{"a", "b", "c", "Zz9", "abcdefghijkl", "minx", "att"}))
	case api.ExprNeg:
		return op(kind, anyExpr(random, depth-1))
	case api.ExprMin, api.ExprMax:
		x := op(kind)
		for range number(random, 1, 3) {
			x.Parts = append(x.Parts, anyExpr(random, depth-1))
		}
		return x
	}
	return op(kind, anyExpr(random, depth-1), anyExpr(random, depth-1))
}

// sign returns what stands for an operation.
func sign(kind int) string {
	return strings.Fields("# # - + - * / min max")[kind]
}

// plainText is the definition of the chapter, sentence by sentence.
func plainText(x api.Expr) string {
	isSum := func(y api.Expr) bool { return y.Kind == api.ExprAdd || y.Kind == api.ExprSub }
	isProduct := func(y api.Expr) bool { return y.Kind == api.ExprMul || y.Kind == api.ExprDiv }
	part := func(y api.Expr, right bool) string {
		brackets := false
		brackets = brackets || isSum(y) && isSum(x) && right
		brackets = brackets || isSum(y) && (isProduct(x) || x.Kind == api.ExprNeg)
		brackets = brackets || isProduct(y) && (isProduct(x) && right || x.Kind == api.ExprNeg)
		if brackets {
			return "(" + plainText(y) + ")"
		}
		return plainText(y)
	}
	switch x.Kind {
	case api.ExprNumber:
		return strconv.Itoa(x.Number)
	case api.ExprName:
		return x.Name
	case api.ExprNeg:
		return "-" + part(x.Parts[0], false)
	case api.ExprMin, api.ExprMax:
		var l []string
		for _, y := range x.Parts {
			l = append(l, plainText(y))
		}
		return sign(x.Kind) + "(" + strings.Join(l, ", ") + ")"
	}
	return part(x.Parts[0], false) + " " + sign(x.Kind) + " " + part(x.Parts[1], true)
}

// looseText returns a text of an expression with more brackets and blanks than it needs.
func looseText(random *rand.Rand, x api.Expr) string {
	blanks := func() string { return strings.Repeat(" ", max(0, number(random, -2, 2))) }
	around := func(y api.Expr, needed bool) string {
		if needed || random.IntN(8) == 0 {
			return "(" + blanks() + looseText(random, y) + blanks() + ")"
		}
		return looseText(random, y)
	}
	compound := func(y api.Expr) bool { return y.Kind >= api.ExprAdd && y.Kind <= api.ExprDiv }
	switch x.Kind {
	case api.ExprNumber:
		return strconv.Itoa(x.Number)
	case api.ExprName:
		return x.Name
	case api.ExprNeg:
		return "-" + blanks() + around(x.Parts[0], compound(x.Parts[0]))
	case api.ExprMin, api.ExprMax:
		text := sign(x.Kind) + blanks() + "("
		for i, y := range x.Parts {
			if i > 0 {
				text += blanks() + ","
			}
			text += blanks() + around(y, false)
		}
		return text + blanks() + ")"
	}
	return around(x.Parts[0], compound(x.Parts[0])) + blanks() + sign(x.Kind) + blanks() + around(x.Parts[1], compound(x.Parts[1]))
}

// P5.1, P5.10: plain texts are those of the chapter, and texts with other blanks and brackets are read as the same expressions.
func TestExprTexts(t *testing.T) {
	random := steadily(1)
	short := 0
	for range 3000 {
		x := anyExpr(random, number(random, 0, 4))
		want := plainText(x)
		text, e := design.PrintExpr(x)
		if len(want) > api.MaxExpr {
			if e != api.ErrLarge || text != "" {
				t.Fatalf("%q is long: %q, %d", want, text, e)
			}
			continue
		}
		short++
		if e != api.OK || text != want {
			t.Fatalf("%v: %q, %d, want %q", x, text, e, want)
		}
		if y, e := design.ParseExpr(text); e != api.OK || !alike(x, y) {
			t.Fatalf("%q: %v, %d, want %v", text, y, e, x)
		}
		other := "  " + looseText(random, x) + " "
		if len(other) > api.MaxExpr {
			continue
		}
		if y, e := design.ParseExpr(other); e != api.OK || !alike(x, y) {
			t.Fatalf("%q: %v, %d, want %v", other, y, e, x)
		}
	}
	if short < 1000 {
		t.Errorf("only %d short texts", short)
	}
}

// span is the grammar of the chapter, rule by rule: it finds what some tokens are in all ways.
type span struct{ tokens []string }

func (s span) sum(from, to int) (api.Expr, bool) {
	return s.chain(from, to, s.sum, s.product, "+-", api.ExprAdd)
}

func (s span) product(from, to int) (api.Expr, bool) {
	return s.chain(from, to, s.product, s.factor, "*/", api.ExprMul)
}

type rule func(from, to int) (api.Expr, bool)

func (s span) chain(from, to int, whole, part rule, signs string, first int) (api.Expr, bool) {
	for k := from + 1; k < to-1; k++ {
		i := strings.Index(signs, s.tokens[k])
		if i < 0 {
			continue
		}
		if x, ok := whole(from, k); ok {
			if y, ok := part(k+1, to); ok {
				return op(first+i, x, y), true
			}
		}
	}
	return part(from, to)
}

func (s span) factor(from, to int) (api.Expr, bool) {
	if to-from == 1 {
		token := s.tokens[from]
		if n, err := strconv.Atoi(token); err == nil {
			return num(n), token[0] != '0' || token == "0"
		}
		keyword := slices.Contains([]string{"min", "max", "at", "size", "with", "turn"}, token)
		return name(token), token[0] >= 'A' && !keyword
	}
	if to-from < 2 {
		return api.Expr{}, false
	}
	switch first := s.tokens[from]; {
	case first == "-":
		x, ok := s.factor(from+1, to)
		return op(api.ExprNeg, x), ok
	case s.tokens[to-1] != ")":
	case first == "(":
		return s.sum(from+1, to-1)
	case (first == "min" || first == "max") && s.tokens[from+1] == "(":
		l, ok := s.list(from+2, to-1)
		return op(slices.Index([]string{"min", "max"}, first)+api.ExprMin, l...), ok
	}
	return api.Expr{}, false
}

func (s span) list(from, to int) ([]api.Expr, bool) {
	for k := from; k < to; k++ {
		if s.tokens[k] != "," {
			continue
		}
		if x, ok := s.sum(from, k); ok {
			if rest, ok := s.list(k+1, to); ok {
				return append([]api.Expr{x}, rest...), true
			}
		}
	}
	x, ok := s.sum(from, to)
	return []api.Expr{x}, ok
}

// P5.1: a text is an expression just if the grammar says so.
func TestExprGrammar(t *testing.T) {
	random := steadily(2)
	words := []string{"0", "1", "23", "01", "a", "bc", "min", "max", "at", "+", "-", "*", "/", "(", ")", ",", "("}
	right, wrong := 0, 0
	for range 60000 {
		tokens := many(number(random, 0, 9), func(int) string { return anyOf(random, words) })
		if random.IntN(2) == 0 {
			tokens = strings.Fields(spread(plainText(anyExpr(random, 2))))
			for range random.IntN(2) {
				at := random.IntN(len(tokens))
				tokens = slices.Replace(tokens, at, at+random.IntN(2), anyOf(random, words))
			}
			tokens = tokens[:min(len(tokens), 12)]
		}
		text := strings.Join(tokens, " ")
		want, ok := span{tokens}.sum(0, len(tokens))
		x, e := design.ParseExpr(text)
		switch {
		case ok && (e != api.OK || !alike(x, want)):
			t.Fatalf("%q: %v, %d, want %v", text, x, e, want)
		case !ok && (e != api.ErrSyntax || !alike(x, api.Expr{})):
			t.Fatalf("%q: %v, %d", text, x, e)
		}
		if ok {
			right++
		} else {
			wrong++
		}
	}
	if right < 1000 || wrong < 1000 {
		t.Errorf("%d right ones, %d wrong ones", right, wrong)
	}
}

// spread puts blanks around the signs of a text.
func spread(text string) string {
	for _, sign := range []string{"+", "-", "*", "/", "(", ")", ","} {
		text = strings.ReplaceAll(text, sign, " "+sign+" ")
	}
	return text
}

// P5.1: texts of the chapter, and those at the limits.
func TestParseExpr(t *testing.T) {
	for text, want := range map[string]string{
		"min( 3,w )*(2+t)-(-1)":        "min(3, w) * (2 + t) - -1",
		"((a))":                        "a",
		"a-b-c":                        "a - b - c",
		"a-(b-c)":                      "a - (b - c)",
		"a/b/c*d":                      "a / b / c * d",
		"a*(b*c)":                      "a * (b * c)",
		"-a*b":                         "-a * b",
		"-(a*b)":                       "-(a * b)",
		"--a":                          "--a",
		"-(-a)":                        "--a",
		"a--b":                         "a - -b",
		"a*-b":                         "a * -b",
		"(a+b)*c":                      "(a + b) * c",
		"(a*b)+c":                      "a * b + c",
		"max((a+b),(c))":               "max(a + b, c)",
		"min ( 1 )":                    "min(1)",
		"999999999":                    "999999999",
		"0":                            "0",
		"abcdefghijkl":                 "abcdefghijkl",
		"Size":                         "Size",
		"MIN":                          "MIN",
		"min1":                         "min1",
		repeated("+", 50):              repeated(" + ", 50),
		repeated("+", 50) + "111":      repeated(" + ", 50) + "111",
		strings.Repeat("-", 199) + "1": strings.Repeat("-", 199) + "1",
		strings.Repeat(" ", 199) + "1": "1",
		strings.Repeat("(", 99) + "1" + strings.Repeat(")", 99): "1",
	} {
		x, e := design.ParseExpr(text)
		plain, also := design.PrintExpr(x)
		if e != api.OK || also != api.OK || plain != want {
			t.Errorf("%q: %q, %d, %d, want %q", text, plain, e, also, want)
		}
	}
	for text, want := range map[string]api.Errno{
		"":                             api.ErrSyntax,
		" ":                            api.ErrSyntax,
		"1000000000":                   api.ErrSyntax,
		"01":                           api.ErrSyntax,
		"00":                           api.ErrSyntax,
		"-01":                          api.ErrSyntax,
		"+1":                           api.ErrSyntax,
		"1 2":                          api.ErrSyntax,
		"1a":                           api.ErrSyntax,
		"a b":                          api.ErrSyntax,
		"a-":                           api.ErrSyntax,
		"a_b":                          api.ErrSyntax,
		"abcdefghijklm":                api.ErrSyntax,
		"min":                          api.ErrSyntax,
		"min()":                        api.ErrSyntax,
		"min(1":                        api.ErrSyntax,
		"min(1,)":                      api.ErrSyntax,
		"max(,1)":                      api.ErrSyntax,
		"max 1":                        api.ErrSyntax,
		"at":                           api.ErrSyntax,
		"1 + size":                     api.ErrSyntax,
		"turn":                         api.ErrSyntax,
		"with":                         api.ErrSyntax,
		"(1":                           api.ErrSyntax,
		"1)":                           api.ErrSyntax,
		"()":                           api.ErrSyntax,
		"1, 2":                         api.ErrSyntax,
		"1\t+ 2":                       api.ErrSyntax,
		"1\n":                          api.ErrSyntax,
		"a = 1":                        api.ErrSyntax,
		"\u00e4":                       api.ErrSyntax,
		"a\x00":                        api.ErrSyntax,
		strings.Repeat(" ", 200):       api.ErrSyntax,
		strings.Repeat(" ", 201):       api.ErrLarge,
		strings.Repeat(" ", 200) + "1": api.ErrLarge,
		strings.Repeat("-", 200) + "1": api.ErrLarge,
		strings.Repeat("(", 201):       api.ErrLarge,
		strings.Repeat("(", 200):       api.ErrSyntax,
		repeated("+", 51) + "+1":       api.ErrLarge, // 205 bytes, if it is plain
		repeated("+", 51) + "+":        api.ErrSyntax,
		repeated("+", 51):              api.ErrLarge, // 201 bytes, if it is plain
	} {
		if x, e := design.ParseExpr(text); e != want || !alike(x, api.Expr{}) {
			t.Errorf("%q: %v, %d, want %d", text, x, e, want)
		}
	}
}

// P5.1: expressions that are not formed as the chapter says, ahead of those that are too large.
func TestExprForm(t *testing.T) {
	large := op(api.ExprMin, many(101, func(int) api.Expr { return num(1) })...)
	fits := op(api.ExprMax, many(65, func(int) api.Expr { return num(1) })...)
	for what, x := range map[string]struct {
		x    api.Expr
		want api.Errno
	}{
		"nothing":                    {api.Expr{}, api.OK},
		"a kind below":               {api.Expr{Kind: -1}, api.ErrForm},
		"a kind above":               {op(api.ExprMax+1, num(1)), api.ErrForm},
		"the least kind":             {api.Expr{Kind: math.MinInt}, api.ErrForm},
		"the greatest kind":          {api.Expr{Kind: math.MaxInt}, api.ErrForm},
		"a negative number":          {num(-1), api.ErrForm},
		"the greatest number":        {num(999999999), api.OK},
		"a greater number":           {num(1000000000), api.ErrForm},
		"a number with a name":       {api.Expr{Name: "a"}, api.ErrForm},
		"a number with a part":       {op(api.ExprNumber, num(1)), api.ErrForm},
		"no name":                    {name(""), api.ErrForm},
		"a name of 12":               {name("abcdefghijkl"), api.OK},
		"a name of 13":               {name("abcdefghijklm"), api.ErrForm},
		"a name with a hyphen":       {name("a-b"), api.ErrForm},
		"a name of a digit":          {name("1a"), api.ErrForm},
		"the name min":               {name("min"), api.ErrForm},
		"the name max":               {name("max"), api.ErrForm},
		"the name at":                {name("at"), api.ErrForm},
		"the name size":              {name("size"), api.ErrForm},
		"the name turn":              {name("turn"), api.ErrForm},
		"the name with":              {name("with"), api.ErrForm},
		"a name with a number":       {api.Expr{Kind: api.ExprName, Name: "a", Number: 1}, api.ErrForm},
		"a name with a part":         {api.Expr{Kind: api.ExprName, Name: "a", Parts: []api.Expr{num(1)}}, api.ErrForm},
		"the negative of nothing":    {op(api.ExprNeg), api.ErrForm},
		"the negative of two":        {op(api.ExprNeg, num(1), num(1)), api.ErrForm},
		"a negative with a number":   {api.Expr{Kind: api.ExprNeg, Number: 1, Parts: []api.Expr{num(1)}}, api.ErrForm},
		"a negative with a name":     {api.Expr{Kind: api.ExprNeg, Name: "a", Parts: []api.Expr{num(1)}}, api.ErrForm},
		"a sum of one":               {op(api.ExprAdd, num(1)), api.ErrForm},
		"a difference of three":      {op(api.ExprSub, num(1), num(1), num(1)), api.ErrForm},
		"a product of none":          {op(api.ExprMul), api.ErrForm},
		"a quotient of one":          {op(api.ExprDiv, num(1)), api.ErrForm},
		"the least of none":          {op(api.ExprMin), api.ErrForm},
		"the greatest of none":       {op(api.ExprMax), api.ErrForm},
		"a wrong part":               {op(api.ExprAdd, num(1), op(api.ExprMax, num(2), op(api.ExprNeg, num(-1)))), api.ErrForm},
		"as large as can be":         {fits, api.OK},
		"too large":                  {large, api.ErrLarge},
		"too large, with wrong part": {op(api.ExprAdd, large, num(-1)), api.ErrForm},
	} {
		text, e := design.PrintExpr(x.x)
		if e != x.want || e != api.OK && text != "" {
			t.Errorf("%s: %q, %d, want %d", what, text, e, x.want)
		}
		if l, e := design.Names(x.x); e != x.want || e != api.OK && len(l) > 0 {
			t.Errorf("names of %s: %v, %d, want %d", what, l, e, x.want)
		}
		if n, e := design.Eval(x.x, nil, []int{1}); e != x.want && x.want != api.OK || n != 0 {
			t.Errorf("value of %s: %d, %d, want %d", what, n, e, x.want)
		}
	}
}

// P5.1, R2: expressions whose parts are the same memory, or contain themselves, end.
func TestExprWithin(t *testing.T) {
	for _, kind := range []int{api.ExprNeg, api.ExprAdd, api.ExprDiv, api.ExprMin} {
		parts := make([]api.Expr, 2)
		if kind == api.ExprNeg {
			parts = parts[:1]
		}
		for i := range parts {
			parts[i] = api.Expr{Kind: kind, Parts: parts}
		}
		if text, e := design.PrintExpr(parts[0]); e != api.ErrLarge || text != "" {
			t.Errorf("an endless expression of kind %d: %q, %d", kind, text, e)
		}
		if _, e := design.Eval(parts[0], nil, nil); e != api.ErrLarge {
			t.Errorf("the value of an endless expression of kind %d: %d", kind, e)
		}
	}
	parts := []api.Expr{{Kind: api.ExprAdd}, num(-1)}
	parts[0].Parts = parts
	if _, e := design.Names(parts[0]); e != api.ErrForm {
		t.Errorf("an endless expression with a wrong part: %d", e)
	}
	x := num(1)
	for range 60 {
		x = op(api.ExprMax, x, x, x)
	}
	if _, e := design.PrintExpr(x); e != api.ErrLarge {
		t.Errorf("an expression of 3 to the 60 ones: %d", e)
	}
	x = num(1)
	for range 1 << 16 {
		x = op(api.ExprAdd, x, num(1))
	}
	if _, e := design.PrintExpr(x); e != api.ErrLarge {
		t.Errorf("a deep expression: %d", e)
	}
}

// P5.1: names ascend, each once.
func TestNames(t *testing.T) {
	for text, want := range map[string][]string{
		"1 + 2":                          nil,
		"w":                              {"w"},
		"b + a * (b - c) / min(a, Z, 9)": {"Z", "a", "b", "c"},
		"-x10 - x9 - x1":                 {"x1", "x10", "x9"},
	} {
		x, e := design.ParseExpr(text)
		if e != api.OK {
			t.Fatalf("%q: %d", text, e)
		}
		if l, e := design.Names(x); e != api.OK || !alike(l, want) {
			t.Errorf("%q: %v, %d, want %v", text, l, e, want)
		}
	}
}

// worth is the value of the chapter in numbers of any size: the error of the first part that has one.
func worth(x api.Expr, values map[string]int64) (*big.Int, api.Errno) {
	var parts []*big.Int
	for _, y := range x.Parts {
		n, e := worth(y, values)
		if e != api.OK {
			return nil, e
		}
		parts = append(parts, n)
	}
	n := new(big.Int)
	switch x.Kind {
	case api.ExprNumber:
		n.SetInt64(int64(x.Number))
	case api.ExprName:
		n.SetInt64(values[x.Name])
	case api.ExprNeg:
		n.Neg(parts[0])
	case api.ExprAdd:
		n.Add(parts[0], parts[1])
	case api.ExprSub:
		n.Sub(parts[0], parts[1])
	case api.ExprMul:
		n.Mul(parts[0], parts[1])
	case api.ExprDiv:
		if parts[1].Sign() == 0 {
			return nil, api.ErrZero
		}
		// DivMod leaves no negative rest: rounded down, the rest has the sign of the divisor.
		rest := new(big.Int)
		n.DivMod(parts[0], parts[1], rest)
		if rest.Sign() != 0 && parts[1].Sign() < 0 {
			n.Sub(n, big.NewInt(1))
		}
	default:
		n = slices.MinFunc(parts, (*big.Int).Cmp)
		if x.Kind == api.ExprMax {
			n = slices.MaxFunc(parts, (*big.Int).Cmp)
		}
	}
	if new(big.Int).Abs(n).Cmp(big.NewInt(api.MaxValue)) > 0 {
		return nil, api.ErrRange
	}
	return n, api.OK
}

// P5.1: values and their errors are those of the definition.
func TestEvalAny(t *testing.T) {
	random := steadily(3)
	seen := map[api.Errno]int{}
	names := []string{"a", "b", "c", "Zz9", "abcdefghijkl", "minx", "att", "a"}
	for range 20000 {
		x := anyExpr(random, number(random, 1, 3))
		if _, e := design.PrintExpr(x); e != api.OK {
			continue
		}
		var given []int
		values := map[string]int64{}
		for i, s := range names {
			given = append(given, anyOf(random, []int{-100000000, -10001, -7, -2, -1, 0, 1, 2, 3, 10000, 10001, 100000000, 100000001, math.MinInt, math.MaxInt}))
			if i < 7 {
				values[s] = int64(given[i])
			}
		}
		want, wantError := worth(x, values)
		n, e := design.Eval(x, names, given)
		seen[e]++
		if e != wantError || e == api.OK && int64(n) != want.Int64() || e != api.OK && n != 0 {
			t.Fatalf("%s of %v: %d, %d, want %v, %d", plainText(x), given, n, e, want, wantError)
		}
	}
	for _, e := range []api.Errno{api.OK, api.ErrZero, api.ErrRange} {
		if seen[e] < 100 {
			t.Errorf("error %d only %d times", e, seen[e])
		}
	}
}

// P5.1: values that the chapter names, and errors in their order.
func TestEval(t *testing.T) {
	names, values := []string{"w", "t", "w", "zero", "big", "not a name"}, []int{80000, -3, 5, 0, 100000001, 1}
	for text, want := range map[string]struct {
		value int
		e     api.Errno
	}{
		"w":                      {80000, api.OK},
		"w / 40":                 {2000, api.OK},
		"t / 2":                  {-2, api.OK},
		"-t / 2":                 {1, api.OK},
		"3 / -2":                 {-2, api.OK},
		"t / -2":                 {1, api.OK},
		"6 / t":                  {-2, api.OK},
		"zero / t":               {0, api.OK},
		"min(t)":                 {-3, api.OK},
		"max(t)":                 {-3, api.OK},
		"min(w, t, 7)":           {-3, api.OK},
		"max(7, t, w)":           {80000, api.OK},
		"1 - 2 - 3":              {-4, api.OK},
		"1 - (2 - 3)":            {2, api.OK},
		"100 / 7 * 7":            {98, api.OK},
		"100000000":              {100000000, api.OK},
		"-100000000":             {-100000000, api.OK},
		"100000001":              {0, api.ErrRange},
		"-100000001":             {0, api.ErrRange},
		"100000001 - 1":          {0, api.ErrRange},
		"100000000 + 1":          {0, api.ErrRange},
		"-100000000 - 1":         {0, api.ErrRange},
		"10000 * 10000":          {100000000, api.OK},
		"10000 * 10001":          {0, api.ErrRange},
		"big":                    {0, api.ErrRange},
		"min(1, big)":            {0, api.ErrRange},
		"1 / zero":               {0, api.ErrZero},
		"1 / (1 / 2)":            {0, api.ErrZero},
		"1 / zero + big":         {0, api.ErrZero},
		"big + 1 / zero":         {0, api.ErrRange},
		"big / zero":             {0, api.ErrRange},
		"(100000000 + 1) / zero": {0, api.ErrRange},
		"1 / zero + nobody":      {0, api.ErrMissing},
		"big + nobody":           {0, api.ErrMissing},
		"nobody":                 {0, api.ErrMissing},
	} {
		x, e := design.ParseExpr(text)
		if e != api.OK {
			t.Fatalf("%q: %d", text, e)
		}
		if n, e := design.Eval(x, names, values); n != want.value || e != want.e {
			t.Errorf("%q: %d, %d, want %d, %d", text, n, e, want.value, want.e)
		}
		if n, e := design.Eval(x, names, values[1:]); n != 0 || e != api.ErrShape {
			t.Errorf("%q with too few values: %d, %d", text, n, e)
		}
		if n, e := design.Eval(x, names[1:], values); n != 0 || e != api.ErrShape {
			t.Errorf("%q with too few names: %d, %d", text, n, e)
		}
	}
}

// P5.10: the value of a sum is the sum of the values, and min and max do not depend on the order.
func TestEvalConsequences(t *testing.T) {
	random := steadily(4)
	for range 3000 {
		l := many(number(random, 1, 4), func(int) api.Expr { return anyExpr(random, 1) })
		var values []int
		for _, x := range l {
			n, e := design.Eval(x, []string{"a", "b", "c", "Zz9", "abcdefghijkl", "minx", "att"}, []int{1, -2, 3, -40, 500, 6, 0})
			if e == api.OK {
				values = append(values, n)
			}
		}
		if len(values) < len(l) {
			continue
		}
		value := func(x api.Expr) int {
			n, e := design.Eval(x, []string{"a", "b", "c", "Zz9", "abcdefghijkl", "minx", "att"}, []int{1, -2, 3, -40, 500, 6, 0})
			if e != api.OK {
				n = math.MinInt
			}
			return n
		}
		if n, want := value(op(api.ExprAdd, l[0], l[len(l)-1])), values[0]+values[len(l)-1]; n != want && max(want, -want) <= api.MaxValue {
			t.Fatalf("the sum of %d and %d: %d", values[0], values[len(l)-1], n)
		}
		other := many(len(l), func(i int) api.Expr { return l[len(l)-1-i] })
		if value(op(api.ExprMin, l...)) != slices.Min(values) || value(op(api.ExprMin, other...)) != slices.Min(values) {
			t.Fatalf("the least of %v", values)
		}
		if value(op(api.ExprMax, l...)) != slices.Max(values) || value(op(api.ExprMax, other...)) != slices.Max(values) {
			t.Fatalf("the greatest of %v", values)
		}
	}
}
