package compile

import (
	"baize/code"
	"baize/syntax"
)

// How a part halts.
const (
	accepts = 0
	refuses = 1
)

// statements gives what each kind of them comes to.
func statements() map[int]func(*builder, syntax.Stmt) {
	return map[int]func(*builder, syntax.Stmt){
		syntax.Assign: (*builder).assign,
		syntax.Put:    (*builder).put,
		syntax.If:     (*builder).choose,
		syntax.For:    (*builder).repeat,
		syntax.Refuse: (*builder).refuse,
		syntax.Roll:   (*builder).roll,
		syntax.Seat:   (*builder).seat,
		syntax.Over:   (*builder).over,
		syntax.Pay:    (*builder).pay,
		syntax.Rest:   (*builder).leave,
	}
}

// block puts statements, one behind the other.
func (b *builder) block(l []syntax.Stmt) {
	for _, s := range l {
		b.statements[s.Kind](b, s)
	}
}

func (b *builder) assign(s syntax.Stmt) {
	v := b.known[s.Name]
	value := b.take() // the cell itself may still be read
	defer b.back()
	b.expr(s.E[0], value)
	b.add(code.Cut, value, v.Low, v.High)
	b.add(code.Move, v.at, value, 0)
}

func (b *builder) put(s syntax.Stmt) {
	v := b.known[s.Name]
	place := b.take()
	defer b.back()
	value := b.take()
	defer b.back()
	there := b.take()
	defer b.back()
	b.expr(s.E[0], place)
	b.expr(s.E[1], value)
	b.add(code.Within, there, place, v.Size)
	past := b.add(code.Jz, 0, there, 0)
	b.add(code.Cut, value, v.Low, v.High)
	b.add(code.Store, v.at, place, value)
	b.land(past)
}

func (b *builder) choose(s syntax.Stmt) {
	past := b.unless(s.E[0])
	b.block(s.L)
	if len(s.Else) > 0 {
		end := b.add(code.Jump, 0, 0, 0)
		b.land(past)
		b.block(s.Else)
		past = end
	}
	b.land(past)
}

// unless puts a jump that is done if an expression is 0, and gives its place; its word is free again behind it, lest ifs within ifs need one each.
func (b *builder) unless(e syntax.Expr) int {
	value := b.take()
	defer b.back()
	b.expr(e, value)
	return b.add(code.Jz, 0, value, 0)
}

func (b *builder) repeat(s syntax.Stmt) {
	if s.Low > s.High {
		return
	}
	b.naming(s.Name, func(number int) {
		end := b.take()
		defer b.back()
		one := b.take()
		defer b.back()
		b.add(code.Set, number, s.Low, 0)
		b.add(code.Set, end, int(int32(s.High)+1), 0) // goes round just as the number does
		round := b.add(code.Set, one, 1, 0) + 1
		b.block(s.L)
		b.add(code.Add, number, number, one)
		left := b.take()
		defer b.back()
		b.add(code.Ne, left, number, end)
		b.add(code.Jnz, round, left, 0)
	})
}

func (b *builder) refuse(syntax.Stmt) {
	b.add(code.Halt, refuses, 0, 0)
}

func (b *builder) roll(s syntax.Stmt) {
	b.add(code.Set, b.result, b.known[s.Name].at, 0) // a cell's number is its word
	b.add(code.Set, b.sides(), s.Low, 0)
}

func (b *builder) seat(s syntax.Stmt) {
	b.expr(s.E[0], b.result)
	b.add(code.Halt, accepts, 0, 0)
}

func (b *builder) over(syntax.Stmt) {
	b.add(code.Set, b.result, -1, 0)
	b.add(code.Halt, accepts, 0, 0)
}

func (b *builder) pay(s syntax.Stmt) {
	who := b.take()
	defer b.back()
	more := b.take()
	defer b.back()
	asked := b.take()
	defer b.back()
	b.expr(s.E[0], who)
	b.expr(s.E[1], more)
	b.orFirst(who, asked)
	b.add(code.Cut, more, 0, MostAsk)
	b.add(code.Load, asked, b.result, who)
	b.add(code.Add, asked, asked, more)
	b.add(code.Cut, asked, 0, MostAsk)
	b.add(code.Store, b.result, who, asked)
}

func (b *builder) leave(s syntax.Stmt) {
	there := b.take()
	defer b.back()
	b.expr(s.E[0], b.rest())
	b.orFirst(b.rest(), there)
}

// orFirst makes 0 of a word that is no seat; the other word is needed for that.
func (b *builder) orFirst(who, there int) {
	b.add(code.Within, there, who, b.seats)
	b.add(code.Mul, who, who, there)
}
