package design

import (
	"strconv"

	"spokeshave/api"
)

// How much parts of expressions bind.
const (
	bindSum = iota
	bindProduct
	bindFactor
)

// PrintExpr returns the plain text of an expression.
func PrintExpr(x api.Expr) (string, api.Errno) {
	if !isFormed(x) {
		return "", api.ErrForm
	}
	return plain(x)
}

// plain returns the plain text of an expression that is formed right.
func plain(x api.Expr) (string, api.Errno) {
	var p printer
	p.write(x, 0)
	if p.large || len(p.text) > api.MaxExpr {
		return "", api.ErrLarge
	}
	return string(p.text), api.OK
}

// printer writes a plain text, until it is too large.
type printer struct {
	text  []byte
	large bool
}

// write writes an expression that is a part of so many others.
func (p *printer) write(x api.Expr, depth int) {
	// Each of the others has a sign, so that the text is too large even if this part contains itself.
	p.large = p.large || depth >= api.MaxExpr || len(p.text) > api.MaxExpr
	if p.large {
		return
	}
	switch x.Kind {
	case api.ExprNumber:
		p.text = strconv.AppendInt(p.text, int64(x.Number), 10)
	case api.ExprName:
		p.text = append(p.text, x.Name...)
	case api.ExprNeg:
		p.text = append(p.text, signs[x.Kind]...)
		p.writePart(x.Parts[0], bindFactor, depth)
	case api.ExprMin, api.ExprMax:
		p.writeList(x, depth)
	default:
		p.writePart(x.Parts[0], bindingOf(x.Kind), depth)
		p.text = append(p.text, " "+signs[x.Kind]+" "...)
		p.writePart(x.Parts[1], bindingOf(x.Kind)+1, depth)
	}
}

// writePart writes a part, in brackets if it binds less than it must.
func (p *printer) writePart(x api.Expr, least, depth int) {
	bare := bindingOf(x.Kind) >= least
	if !bare {
		p.text = append(p.text, '(')
	}
	p.write(x, depth+1)
	if !bare {
		p.text = append(p.text, ')')
	}
}

func (p *printer) writeList(x api.Expr, depth int) {
	p.text = append(p.text, signs[x.Kind]+"("...)
	for i, part := range x.Parts {
		if p.large {
			return
		}
		if i > 0 {
			p.text = append(p.text, ", "...)
		}
		p.writePart(part, bindSum, depth)
	}
	p.text = append(p.text, ')')
}

// bindingOf returns how much expressions of a kind bind.
func bindingOf(kind int) int {
	switch kind {
	case api.ExprAdd, api.ExprSub:
		return bindSum
	case api.ExprMul, api.ExprDiv:
		return bindProduct
	}
	return bindFactor
}
