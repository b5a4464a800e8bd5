package expr

import (
	"strings"

	"pantograph/api"
	"pantograph/dec"
)

// Rows of nodes; what is more binds more.
const (
	rowSum     = 1
	rowProduct = 2
	rowNeg     = 3
	rowLeaf    = 4
)

// Print is an expression as a text.
func Print(e api.Expr) string {
	if !Is(e) {
		return ""
	}
	var b strings.Builder
	write(&b, e)
	return b.String()
}

func write(b *strings.Builder, e api.Expr) {
	switch e.Kind {
	case api.ExprNum:
		digits, _ := dec.Exact(e.Num)
		b.WriteString(digits)
	case api.ExprName:
		b.WriteString(e.Name)
	case api.ExprNeg:
		b.WriteString("-")
		writeKid(b, e.Kids[0], rowNeg)
	default:
		// One of the same row stands without brackets on the left alone:
		// a row is read from the left.
		row := rowOf(e.Kind)
		writeKid(b, e.Kids[0], row)
		b.WriteString(sign(e.Kind))
		writeKid(b, e.Kids[1], row+1)
	}
}

// writeKid writes a Kid at a place that asks for a row.
func writeKid(b *strings.Builder, kid api.Expr, row int) {
	if rowOf(kid.Kind) >= row {
		write(b, kid)
		return
	}
	b.WriteString("(")
	write(b, kid)
	b.WriteString(")")
}

func rowOf(kind int) int {
	switch kind {
	case api.ExprAdd, api.ExprSub:
		return rowSum
	case api.ExprMul, api.ExprDiv:
		return rowProduct
	case api.ExprNeg:
		return rowNeg
	}
	return rowLeaf
}

// sign is what stands between two, blanks too.
func sign(kind int) string {
	switch kind {
	case api.ExprAdd:
		return " + "
	case api.ExprSub:
		return " - "
	case api.ExprMul:
		return " * "
	}
	return " / "
}
