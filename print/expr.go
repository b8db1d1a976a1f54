package print

import (
	"strconv"

	"baize/syntax"
)

// How tight expressions are, from loose to tight.
const (
	or = iota + 1
	and
	compare // =, and the others of which one stands alone
	sum
	product
	plain
)

// operation is what an expression's text is made by.
type operation struct {
	tight int
	parts int
	mark  string // between its operands, or ahead of the only one
}

// operations are all that there are.
var operations = [...]operation{
	syntax.Number: {plain, 0, ""},
	syntax.Name:   {plain, 0, ""},
	syntax.Index:  {plain, 1, ""},
	syntax.Neg:    {plain, 1, "-"},
	syntax.Not:    {plain, 1, "not"},
	syntax.Mul:    {product, 2, "*"},
	syntax.Div:    {product, 2, "/"},
	syntax.Rem:    {product, 2, "%"},
	syntax.Add:    {sum, 2, "+"},
	syntax.Sub:    {sum, 2, "-"},
	syntax.Eq:     {compare, 2, "="},
	syntax.Ne:     {compare, 2, "!="},
	syntax.Lt:     {compare, 2, "<"},
	syntax.Le:     {compare, 2, "<="},
	syntax.Gt:     {compare, 2, ">"},
	syntax.Ge:     {compare, 2, ">="},
	syntax.And:    {and, 2, "and"},
	syntax.Or:     {or, 2, "or"},
}

// add writes pieces of an expression, with one blank between two.
func (w *writer) add(pieces ...string) {
	for _, piece := range pieces {
		if w.Len() > 0 {
			w.WriteByte(' ')
		}
		w.WriteString(piece)
	}
}

// expr writes an expression behind what the writer has of one.
func (w *writer) expr(e syntax.Expr) {
	if e.Op < 0 || e.Op >= len(operations) || len(e.L) != operations[e.Op].parts {
		w.wrong = true
	}
	if w.stopped() {
		return
	}
	is := operations[e.Op]
	switch {
	case e.Op == syntax.Number:
		w.add(strconv.Itoa(e.N))
	case e.Op == syntax.Name:
		w.add(e.Name)
	case e.Op == syntax.Index:
		w.add(e.Name, "[")
		w.expr(e.L[0])
		w.add("]")
	case is.parts == 1:
		w.add(is.mark)
		w.operand(e.L[0], plain)
	default:
		w.operand(e.L[0], leftmost(is.tight))
		w.add(is.mark)
		w.operand(e.L[1], is.tight+1)
	}
}

// leftmost tells how tight a left operand has to be: what is joined leans left, but of those of which one stands alone.
func leftmost(tight int) int {
	if tight == compare {
		return tight + 1
	}
	return tight
}

// operand writes one, in parentheses if it is less tight than it has to be.
func (w *writer) operand(e syntax.Expr, tight int) {
	if 0 <= e.Op && e.Op < len(operations) && operations[e.Op].tight < tight {
		w.add("(")
		w.expr(e)
		w.add(")")
		return
	}
	w.expr(e)
}
