package sorts

import (
	"baize/api"
	"baize/syntax"
)

// parts is how many expressions each operation has.
var parts = [...]int{
	syntax.Number: 0,
	syntax.Name:   0,
	syntax.Index:  1,
	syntax.Neg:    1,
	syntax.Not:    1,
	syntax.Mul:    2,
	syntax.Div:    2,
	syntax.Rem:    2,
	syntax.Add:    2,
	syntax.Sub:    2,
	syntax.Eq:     2,
	syntax.Ne:     2,
	syntax.Lt:     2,
	syntax.Le:     2,
	syntax.Gt:     2,
	syntax.Ge:     2,
	syntax.And:    2,
	syntax.Or:     2,
}

// expr looks at an expression, and at those within it.
func (c *checker) expr(e syntax.Expr) {
	must(0 <= e.Op && e.Op < len(parts) && len(e.L) == parts[e.Op], api.ErrForm, "")
	switch e.Op {
	case syntax.Number:
		must(inNumbers(e.N), api.ErrRange, "")
	case syntax.Name:
		is, known := c.known[e.Name]
		must(known, api.ErrName, e.Name)
		must(is != list, api.ErrSort, e.Name)
	case syntax.Index:
		is, known := c.known[e.Name]
		must(known, api.ErrName, e.Name)
		must(is == list, api.ErrSort, e.Name)
	}
	for _, x := range e.L {
		c.expr(x)
	}
}
