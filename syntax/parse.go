package syntax

import (
	"baize/api"
	"baize/lex"
)

const (
	// mostWithin is within how many others an expression, or a statement, can't stand any more.
	mostWithin = 16
	// nothing is the kind of what is next behind an error: nothing takes it.
	nothing = -1
)

// parser reads tokens from the front on; behind the first error none is left.
type parser struct {
	left  []lex.Token
	place Place // the first error's
	err   api.Errno
	joins [levels]map[string]int
	forms map[string]func() Stmt // of statements that a word begins, what reads them behind it
	stmts int                    // within how many others the next statement stands
	exprs int                    // likewise the next expression
}

// parsed gives what read reads, if all of a text is that.
func parsed[T any](s string, read func(*parser) T) (T, Place, api.Errno) {
	var none T
	tokens, place, err := lex.Tokens(s)
	if err != api.OK {
		return none, Place(place), err
	}
	p := &parser{left: tokens, joins: joins()}
	p.forms = p.statements()
	tree := read(p)
	if p.next().Kind != lex.End {
		p.wrong()
	}
	if p.err != api.OK {
		return none, p.place, p.err
	}
	return tree, Place{}, api.OK
}

// next gives the next token.
func (p *parser) next() lex.Token {
	if len(p.left) == 0 {
		return lex.Token{Kind: nothing}
	}
	return p.left[0]
}

// skip goes on behind the next token, and gives it.
func (p *parser) skip() lex.Token {
	t := p.next()
	if t.Kind != nothing {
		p.left = p.left[1:]
	}
	return t
}

// fail notes an error at the next token, if it is the first one.
func (p *parser) fail(err api.Errno) {
	if p.err == api.OK {
		p.place, p.err, p.left = Place(p.next().At), err, nil
	}
}

// wrong notes that nothing can go on with the next token.
func (p *parser) wrong() {
	if p.next().Kind == lex.End {
		p.fail(api.ErrShort)
	} else {
		p.fail(api.ErrForm)
	}
}

// take takes the next token, if it is that word or mark.
func (p *parser) take(text string) bool {
	is := p.next().Text == text
	if is {
		p.skip()
	}
	return is
}

// must takes a word or mark, which has to stand there.
func (p *parser) must(text string) {
	if !p.take(text) {
		p.wrong()
	}
}

// kind takes a token of that kind, which has to stand there.
func (p *parser) kind(kind int) lex.Token {
	if p.next().Kind != kind {
		p.wrong()
		return lex.Token{}
	}
	return p.skip()
}

func (p *parser) name() string {
	return p.kind(lex.Name).Text
}

func (p *parser) number() int {
	return p.kind(lex.Number).N
}

// signed reads a number, or - and one.
func (p *parser) signed() int {
	if p.take("-") {
		return -p.number()
	}
	return p.number()
}

// list reads things for as long as there is one more.
func list[T any](more func() bool, one func() T) []T {
	var l []T
	for more() {
		l = append(l, one())
	}
	return l
}

func (p *parser) program() Program {
	var g Program
	p.must("game")
	g.Name = p.name()
	p.must("seats")
	g.Seats = p.number()
	p.must("stake")
	g.Stakes = append([]int{p.number()}, list(p.atNumber, p.number)...)
	g.Vars = list(p.atVariable, p.variable)
	p.must("start")
	g.Start = p.part()
	p.must("turn")
	g.Turn = p.part()
	p.must("play")
	g.Params = p.parameters()
	g.Play = p.part()
	p.must("silent")
	g.Silent = p.name()
	g.Quiet = p.part()
	p.must("pay")
	g.Pays = p.part()
	return g
}

func (p *parser) atNumber() bool {
	return p.next().Kind == lex.Number
}

func (p *parser) atVariable() bool {
	return p.next().Text == "var"
}

func (p *parser) variable() Var {
	p.must("var")
	v := Var{Name: p.name()}
	if p.take("[") {
		v.Size = p.number()
		p.must("]")
	}
	v.Low, v.High = p.signed(), p.signed()
	return v
}

// parameters reads those of play, if it has any.
func (p *parser) parameters() []Var {
	if !p.atParameter() {
		return nil
	}
	more := func() bool { return p.take(",") }
	return append([]Var{p.parameter()}, list(more, p.parameter)...)
}

// atParameter tells a parameter's name from that with which a statement begins, by what stands behind it.
func (p *parser) atParameter() bool {
	if p.next().Kind != lex.Name {
		return false
	}
	behind := p.left[1] // the end, at least
	return behind.Kind == lex.Number || behind.Text == "-"
}

func (p *parser) parameter() Var {
	v := Var{Name: p.name()}
	v.Low, v.High = p.signed(), p.signed()
	return v
}
