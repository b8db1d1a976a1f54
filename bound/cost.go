package bound

import "baize/syntax"

const (
	// over is where counting stops: more than may be.
	over = Most + 1
	// framePart is what a part takes beside its block.
	framePart = 8
	// frameRound is what a round of a for takes beside its block.
	frameRound = 4
)

// cost is what a kind takes, and whether the expressions count that it has.
type cost struct {
	steps int
	parts bool
}

// table tells what kinds cost: of operations and of statements.
type table struct {
	exprs, stmts map[int]cost
}

// costs gives the table; what isn't in it is another operation, or no kind of statement.
func costs() table {
	return table{
		exprs: map[int]cost{
			syntax.Number: {1, false},
			syntax.Name:   {1, false},
			syntax.Index:  {6, true},
		},
		stmts: map[int]cost{
			syntax.Assign: {3, true},
			syntax.Put:    {6, true},
			syntax.If:     {3, true},
			syntax.For:    {3, false},
			syntax.Refuse: {2, false},
			syntax.Roll:   {4, false},
			syntax.Seat:   {3, true},
			syntax.Over:   {2, false},
			syntax.Pay:    {8, true},
			syntax.Rest:   {3, true},
		},
	}
}

// expr gives an expression's steps.
func (t table) expr(e syntax.Expr) int {
	c, listed := t.exprs[e.Op]
	if !listed {
		c = cost{2, true}
	}
	add := adder()
	if c.parts {
		add(total(e.L, t.expr))
	}
	return add(c.steps)
}

// block gives the steps of statements.
func (t table) block(l []syntax.Stmt) int {
	return total(l, t.stmt)
}

// stmt gives a statement's steps.
func (t table) stmt(s syntax.Stmt) int {
	c, listed := t.stmts[s.Kind]
	if !listed {
		c = cost{1, false}
	}
	add := adder()
	if c.parts {
		add(total(s.E, t.expr))
	}
	switch s.Kind {
	case syntax.If:
		add(max(t.block(s.L), t.block(s.Else)))
	case syntax.For:
		add(t.loop(s))
	}
	return add(c.steps)
}

// loop gives the steps of a for's rounds.
func (t table) loop(s syntax.Stmt) int {
	if s.High < s.Low {
		return 0
	}
	rounds := 1 + int(min(uint(s.High)-uint(s.Low), Most)) // what is more would be over all the more
	return rounds * (frameRound + t.block(s.L))
}

// total adds up the steps of parts.
func total[T any](parts []T, steps func(T) int) int {
	add, sum := adder(), 0
all:
	for _, part := range parts {
		if sum = add(steps(part)); sum == over {
			break all
		}
	}
	return sum
}

// adder gives a function that adds steps to those that it was given ahead, up to where counting stops, and tells how many they are.
func adder() func(steps int) int {
	sum := 0
	return func(steps int) int {
		sum = min(sum+steps, over)
		return sum
	}
}
