package design

import (
	"slices"
	"strconv"
	"strings"

	"spokeshave/api"
)

const maxDigits = 9 // of a number

// ParseExpr returns the expression of a text.
func ParseExpr(s string) (api.Expr, api.Errno) {
	x, _, e := readExpr(s)
	return x, e
}

// readExpr returns the expression of a text, and its plain text.
func readExpr(s string) (api.Expr, string, api.Errno) {
	if len(s) > api.MaxExpr {
		return api.Expr{}, "", api.ErrLarge
	}
	r := reader{tokensOf(s)}
	x, ok := r.sum()
	if !ok || len(r.rest) > 0 {
		return api.Expr{}, "", api.ErrSyntax
	}
	text, e := plain(x)
	if e != api.OK {
		return api.Expr{}, "", e
	}
	return x, text, api.OK
}

// tokensOf returns the signs, numbers and names of a text. Bytes of no other meaning are signs, too; no expression has them.
func tokensOf(s string) []string {
	var tokens []string
	for s = strings.TrimLeft(s, " "); s != ""; s = strings.TrimLeft(s, " ") {
		n := 1
		switch {
		case isLetter(s[0]):
			n = leading(s, isLetterOrDigit)
		case isDigit(s[0]):
			n = leading(s, isDigit)
		}
		tokens = append(tokens, s[:n])
		s = s[n:]
	}
	return tokens
}

// reader reads an expression from its tokens. Each method takes what it reads from the rest, and reports whether it was there.
type reader struct{ rest []string }

// next takes a token; it is empty at the end.
func (r *reader) next() string {
	if len(r.rest) == 0 {
		return ""
	}
	token := r.rest[0]
	r.rest = r.rest[1:]
	return token
}

func (r *reader) sum() (api.Expr, bool) {
	return r.chain(r.product, api.ExprAdd, api.ExprSub)
}

func (r *reader) product() (api.Expr, bool) {
	return r.chain(r.factor, api.ExprMul, api.ExprDiv)
}

// chain reads parts with operations of some kinds between them, which group to the left.
func (r *reader) chain(part func() (api.Expr, bool), kinds ...int) (api.Expr, bool) {
	x, ok := part()
	for ok && len(r.rest) > 0 {
		i := slices.IndexFunc(kinds, func(kind int) bool { return signs[kind] == r.rest[0] })
		if i < 0 {
			break
		}
		r.next()
		var y api.Expr
		y, ok = part()
		x = api.Expr{Kind: kinds[i], Parts: []api.Expr{x, y}}
	}
	return x, ok
}

func (r *reader) factor() (api.Expr, bool) {
	switch token := r.next(); {
	case token == signs[api.ExprNeg]:
		x, ok := r.factor()
		return api.Expr{Kind: api.ExprNeg, Parts: []api.Expr{x}}, ok
	case token == signs[api.ExprMin]:
		return r.list(api.ExprMin)
	case token == signs[api.ExprMax]:
		return r.list(api.ExprMax)
	case token == "(":
		x, ok := r.sum()
		return x, ok && r.next() == ")"
	case isParam(token):
		return api.Expr{Kind: api.ExprName, Name: token}, true
	default:
		n, ok := readNumber(token)
		return api.Expr{Kind: api.ExprNumber, Number: n}, ok
	}
}

// list reads the brackets of min or max.
func (r *reader) list(kind int) (api.Expr, bool) {
	x := api.Expr{Kind: kind}
	ok := r.next() == "("
	sign := ","
	for ok && sign == "," {
		var part api.Expr
		part, ok = r.sum()
		x.Parts = append(x.Parts, part)
		sign = r.next()
	}
	return x, ok && sign == ")"
}

// readNumber returns the number of a word, or false if it is none as texts of designs have them.
func readNumber(word string) (int, bool) {
	n, err := strconv.Atoi(word)
	if err != nil || strconv.Itoa(n) != word || len(strings.TrimPrefix(word, "-")) > maxDigits {
		return 0, false
	}
	return n, true
}
