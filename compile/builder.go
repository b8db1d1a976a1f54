package compile

import (
	"baize/code"
	"baize/syntax"
)

// builder puts a part's instructions together.
type builder struct {
	layout
	instrs     []code.Instr
	known      map[string]variable
	next       int // the first word that nothing stands in
	words      int // how many were needed so far
	statements map[int]func(*builder, syntax.Stmt)
	operations map[int]func(*builder, syntax.Expr, int)
}

// variable is what a known name stands for, and the word at which it begins.
type variable struct {
	syntax.Var
	at int
}

// newBuilder gives one that knows these variables, and these arguments.
func newBuilder(l layout, vars, args []syntax.Var) *builder {
	b := &builder{layout: l, known: map[string]variable{}, next: l.free(), words: l.free(), statements: statements(), operations: operations()}
	at := 0
	for _, v := range vars {
		b.known[v.Name] = variable{v, at}
		at += size(v)
	}
	for i, v := range args {
		b.known[v.Name] = variable{v, l.cells + i}
	}
	return b
}

// add puts an instruction behind the others, and gives its place.
func (b *builder) add(op, first, second, third int) int {
	b.instrs = append(b.instrs, code.Instr{Op: op, A: first, B: second, C: third})
	return len(b.instrs) - 1
}

// land has the jump at a place go on behind all that there is.
func (b *builder) land(jump int) {
	b.instrs[jump].A = len(b.instrs)
}

// take gives a word that nothing stands in, till it is given back.
func (b *builder) take() int {
	b.next++
	b.words = max(b.words, b.next)
	return b.next - 1
}

// back gives the word back that was taken last.
func (b *builder) back() {
	b.next--
}

// naming has a name stand for a word of its own, as long as something is put together with it.
func (b *builder) naming(name string, put func(word int)) {
	word := b.take()
	b.known[name] = variable{syntax.Var{Name: name}, word}
	defer func() {
		delete(b.known, name)
		b.back()
	}()
	put(word)
}
