package compile

import (
	"baize/code"
	"baize/syntax"
)

// operations gives what each of them comes to: instructions by which a word gets the value.
func operations() map[int]func(*builder, syntax.Expr, int) {
	return map[int]func(*builder, syntax.Expr, int){
		syntax.Number: (*builder).number,
		syntax.Name:   (*builder).name,
		syntax.Index:  (*builder).index,
		syntax.Neg:    (*builder).negative,
		syntax.Not:    (*builder).not,
		syntax.Mul:    (*builder).two,
		syntax.Div:    (*builder).two,
		syntax.Rem:    (*builder).two,
		syntax.Add:    (*builder).two,
		syntax.Sub:    (*builder).two,
		syntax.Eq:     (*builder).two,
		syntax.Ne:     (*builder).two,
		syntax.Lt:     (*builder).two,
		syntax.Le:     (*builder).two,
		syntax.Gt:     (*builder).swapped,
		syntax.Ge:     (*builder).swapped,
		syntax.And:    (*builder).two,
		syntax.Or:     (*builder).two,
	}
}

// twos are the instructions of operations of two operands; greater is less, the other way round.
var twos = [...]int{
	syntax.Mul: code.Mul,
	syntax.Div: code.Div,
	syntax.Rem: code.Rem,
	syntax.Add: code.Add,
	syntax.Sub: code.Sub,
	syntax.Eq:  code.Eq,
	syntax.Ne:  code.Ne,
	syntax.Lt:  code.Lt,
	syntax.Le:  code.Le,
	syntax.Gt:  code.Lt,
	syntax.Ge:  code.Le,
	syntax.And: code.And,
	syntax.Or:  code.Or,
}

// expr puts an expression, whose value a word gets; no cell is written meanwhile.
func (b *builder) expr(e syntax.Expr, into int) {
	b.operations[e.Op](b, e, into)
}

func (b *builder) number(e syntax.Expr, into int) {
	b.add(code.Set, into, e.N, 0)
}

func (b *builder) name(e syntax.Expr, into int) {
	b.add(code.Move, into, b.known[e.Name].at, 0)
}

// index loads the cell 0 in the place of one that isn't there, and takes nothing of it.
func (b *builder) index(e syntax.Expr, into int) {
	v := b.known[e.Name]
	there := b.take()
	defer b.back()
	b.expr(e.L[0], into)
	b.add(code.Within, there, into, v.Size)
	b.add(code.Mul, into, into, there)
	b.add(code.Load, into, v.at, into)
	b.add(code.Mul, into, into, there)
}

func (b *builder) negative(e syntax.Expr, into int) {
	zero := b.take()
	defer b.back()
	b.expr(e.L[0], into)
	b.add(code.Set, zero, 0, 0)
	b.add(code.Sub, into, zero, into)
}

func (b *builder) not(e syntax.Expr, into int) {
	b.expr(e.L[0], into)
	b.add(code.Not, into, into, 0)
}

func (b *builder) two(e syntax.Expr, into int) {
	b.both(e, into, func(right int) {
		b.add(twos[e.Op], into, into, right)
	})
}

func (b *builder) swapped(e syntax.Expr, into int) {
	b.both(e, into, func(right int) {
		b.add(twos[e.Op], into, right, into)
	})
}

// both puts the two operands of an expression, and what is done with them then.
func (b *builder) both(e syntax.Expr, into int, do func(right int)) {
	right := b.take()
	defer b.back()
	b.expr(e.L[0], into)
	b.expr(e.L[1], right)
	do(right)
}
