package syntax

import (
	"baize/api"
	"baize/lex"
)

const (
	// levels is how many tightnesses of joined expressions there are.
	levels = 5
	// alone is the one of which one mark joins, not many.
	alone = 2
)

// joins gives which marks and words join at which tightness, from loose to tight.
func joins() [levels]map[string]int {
	return [levels]map[string]int{
		{"or": Or},
		{"and": And},
		{"=": Eq, "!=": Ne, "<": Lt, "<=": Le, ">": Gt, ">=": Ge},
		{"+": Add, "-": Sub},
		{"*": Mul, "/": Div, "%": Rem},
	}
}

// expression reads one, as far as it goes on.
func (p *parser) expression() Expr {
	return p.joined(0)
}

// joined reads what marks of that tightness join, or of a tighter one.
func (p *parser) joined(level int) Expr {
	if level == levels {
		return p.plain()
	}
	left := p.joined(level + 1)
	for {
		op, more := p.joins[level][p.next().Text]
		if !more {
			return left
		}
		p.skip()
		left = Expr{Op: op, L: []Expr{left, p.joined(level + 1)}}
		if level == alone {
			return left
		}
	}
}

// plain reads the tightest one. Each expression begins with one such, so here it is asked how deep it stands.
func (p *parser) plain() Expr {
	switch {
	case !p.atExpression():
		p.wrong()
		return Expr{}
	case p.exprs >= mostWithin:
		p.fail(api.ErrDeep)
		return Expr{}
	}
	switch t := p.skip(); {
	case t.Kind == lex.Number:
		return Expr{Op: Number, N: t.N}
	case t.Kind == lex.Name && p.take("["):
		place := p.deeper(p.expression)
		p.must("]")
		return Expr{Op: Index, Name: t.Text, L: []Expr{place}}
	case t.Kind == lex.Name:
		return Expr{Op: Name, Name: t.Text}
	case t.Text == "(":
		e := p.deeper(p.expression)
		p.must(")")
		return e
	case t.Text == "-":
		return Expr{Op: Neg, L: []Expr{p.deeper(p.plain)}}
	}
	return Expr{Op: Not, L: []Expr{p.deeper(p.plain)}}
}

// atExpression tells whether the next token can begin one.
func (p *parser) atExpression() bool {
	switch t := p.next(); t.Kind {
	case lex.Number, lex.Name:
		return true
	default:
		return t.Text == "(" || t.Text == "-" || t.Text == "not"
	}
}

// deeper reads an expression that is an operand, one deeper than what has it.
func (p *parser) deeper(read func() Expr) Expr {
	p.exprs++
	e := read()
	p.exprs--
	return e
}
