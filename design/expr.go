package design

import (
	"maps"
	"slices"

	"spokeshave/api"
)

const maxNumber = 999999999 // of an expression

// signs has what stands for the operations in texts, by their kinds.
var signs = [...]string{
	api.ExprNeg: "-",
	api.ExprAdd: "+",
	api.ExprSub: "-",
	api.ExprMul: "*",
	api.ExprDiv: "/",
	api.ExprMin: "min",
	api.ExprMax: "max",
}

// ask returns the value of a name.
type ask func(name string) (int, api.Errno)

// Names returns the names in an expression, ascending, each once.
func Names(x api.Expr) ([]string, api.Errno) {
	if e := checkExpr(x); e != api.OK {
		return nil, e
	}
	return namesIn(x), api.OK
}

// Eval returns the value of an expression whose names have values.
func Eval(x api.Expr, names []string, values []int) (int, api.Errno) {
	if e := checkExpr(x); e != api.OK {
		return 0, e
	}
	if len(names) != len(values) {
		return 0, api.ErrShape
	}
	given := map[string]int{}
	for i, name := range names {
		if _, found := given[name]; !found {
			given[name] = values[i]
		}
	}
	for _, name := range namesIn(x) {
		if _, found := given[name]; !found {
			return 0, api.ErrMissing
		}
	}
	return evaluate(x, func(name string) (int, api.Errno) { return given[name], api.OK })
}

// checkExpr returns the error of an expression that did not come from a text.
func checkExpr(x api.Expr) api.Errno {
	_, e := PrintExpr(x)
	return e
}

// isFormed reports whether an expression is formed right in all parts. A part is looked at once, so that this ends also if it contains itself.
func isFormed(x api.Expr) bool {
	if !isFormedAlone(x) {
		return false
	}
	seen := map[*api.Expr]bool{}
	rest := [][]api.Expr{x.Parts}
	for len(rest) > 0 {
		parts := rest[len(rest)-1]
		rest = rest[:len(rest)-1]
		for i := range parts {
			if seen[&parts[i]] {
				continue
			}
			seen[&parts[i]] = true
			if !isFormedAlone(parts[i]) {
				return false
			}
			rest = append(rest, parts[i].Parts)
		}
	}
	return true
}

// isFormedAlone reports whether an expression is formed right, without regard to what is inside of its parts.
func isFormedAlone(x api.Expr) bool {
	if x.Kind != api.ExprNumber && x.Number != 0 || x.Kind != api.ExprName && x.Name != "" {
		return false
	}
	switch x.Kind {
	case api.ExprNumber:
		return x.Number >= 0 && x.Number <= maxNumber && len(x.Parts) == 0
	case api.ExprName:
		return isParam(x.Name) && len(x.Parts) == 0
	case api.ExprNeg:
		return len(x.Parts) == 1
	case api.ExprAdd, api.ExprSub, api.ExprMul, api.ExprDiv:
		return len(x.Parts) == 2
	case api.ExprMin, api.ExprMax:
		return len(x.Parts) > 0
	}
	return false
}

// namesIn returns the names in a right expression, ascending, each once.
func namesIn(x api.Expr) []string {
	found := map[string]bool{}
	addNames(x, found)
	return slices.Sorted(maps.Keys(found))
}

func addNames(x api.Expr, found map[string]bool) {
	if x.Kind == api.ExprName {
		found[x.Name] = true
	}
	for _, part := range x.Parts {
		addNames(part, found)
	}
}

// evaluate returns the value of a right expression.
func evaluate(x api.Expr, value ask) (int, api.Errno) {
	var parts []int
	for _, part := range x.Parts {
		n, e := evaluate(part, value)
		if e != api.OK {
			return 0, e
		}
		parts = append(parts, n)
	}
	n, e := operate(x, parts, value)
	if e == api.OK && (n < -api.MaxValue || n > api.MaxValue) {
		e = api.ErrRange
	}
	if e != api.OK {
		return 0, e
	}
	return n, api.OK
}

// operate returns the value of an expression whose parts have values.
func operate(x api.Expr, parts []int, value ask) (int, api.Errno) {
	switch x.Kind {
	case api.ExprNumber:
		return x.Number, api.OK
	case api.ExprName:
		return value(x.Name)
	case api.ExprNeg:
		return -parts[0], api.OK
	case api.ExprAdd:
		return parts[0] + parts[1], api.OK
	case api.ExprSub:
		return parts[0] - parts[1], api.OK
	case api.ExprMul:
		return parts[0] * parts[1], api.OK
	case api.ExprDiv:
		return quotient(parts[0], parts[1])
	case api.ExprMin:
		return slices.Min(parts), api.OK
	default: // api.ExprMax
		return slices.Max(parts), api.OK
	}
}

// quotient returns a quotient, rounded down.
func quotient(a, b int) (int, api.Errno) {
	if b == 0 {
		return 0, api.ErrZero
	}
	q := a / b
	if a%b != 0 && (a < 0) != (b < 0) {
		q--
	}
	return q, api.OK
}
