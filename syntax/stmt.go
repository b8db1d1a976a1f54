package syntax

import (
	"baize/api"
	"baize/lex"
)

// statements gives what reads each statement that a word begins, behind that word.
func (p *parser) statements() map[string]func() Stmt {
	return map[string]func() Stmt{
		"if":     p.choice,
		"for":    p.loop,
		"roll":   p.throw,
		"refuse": p.plainly(Refuse, 0),
		"seat":   p.plainly(Seat, 1),
		"over":   p.plainly(Over, 0),
		"pay":    p.plainly(Pay, 2),
		"rest":   p.plainly(Rest, 1),
	}
}

// part reads statements, and the end behind them.
func (p *parser) part() []Stmt {
	l := list(p.atStatement, p.statement)
	p.must("end")
	return l
}

// block reads the statements of an if, or of a for, which are one deeper.
func (p *parser) block() []Stmt {
	p.stmts++
	l := list(p.atStatement, p.statement)
	p.stmts--
	return l
}

func (p *parser) atStatement() bool {
	t := p.next()
	return t.Kind == lex.Name || p.forms[t.Text] != nil
}

// statement reads one that begins here.
func (p *parser) statement() Stmt {
	if p.stmts >= mostWithin {
		p.fail(api.ErrDeep)
		return Stmt{}
	}
	t := p.skip()
	if t.Kind != lex.Name {
		return p.forms[t.Text]()
	}
	s := Stmt{Kind: Assign, Name: t.Text}
	if p.take("[") {
		s.Kind = Put
		s.E = append(s.E, p.expression())
		p.must("]")
	}
	p.must("=")
	s.E = append(s.E, p.expression())
	return s
}

// plainly gives what reads a statement of nothing but its word, and so many expressions.
func (p *parser) plainly(kind, count int) func() Stmt {
	return func() Stmt {
		s := Stmt{Kind: kind}
		for range count {
			s.E = append(s.E, p.expression())
		}
		return s
	}
}

func (p *parser) choice() Stmt {
	s := Stmt{Kind: If, E: []Expr{p.expression()}}
	p.must("then")
	s.L = p.block()
	if p.take("else") {
		s.Else = p.block()
	}
	p.must("end")
	return s
}

func (p *parser) loop() Stmt {
	s := Stmt{Kind: For, Name: p.name()}
	s.Low, s.High = p.signed(), p.signed()
	p.must("do")
	s.L = p.block()
	p.must("end")
	return s
}

func (p *parser) throw() Stmt {
	return Stmt{Kind: Roll, Name: p.name(), Low: p.number()}
}
