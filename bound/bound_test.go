package bound_test

import (
	"fmt"
	"math"
	"math/big"
	"math/rand"
	"slices"
	"testing"

	"baize/api"
	"baize/bound"
	"baize/print"
	"baize/syntax"
)

const over = 65537

func num(n int) syntax.Expr {
	return syntax.Expr{Op: syntax.Number, N: n}
}

func nam(s string) syntax.Expr {
	return syntax.Expr{Op: syntax.Name, Name: s}
}

func of(op int, l ...syntax.Expr) syntax.Expr {
	return syntax.Expr{Op: op, L: l}
}

// statements gives those of a text.
func statements(t *testing.T, s string) []syntax.Stmt {
	t.Helper()
	p, at, err := syntax.Parse("game g seats 2 stake 1 1 start " + s + " end turn end play end silent s end pay end")
	if err != api.OK {
		t.Fatalf("%q: %v, %s", s, at, err.Word())
	}
	return p.Start
}

func wantBlock(t *testing.T, l []syntax.Stmt, want int) {
	t.Helper()
	if n := bound.Block(l); n != want {
		t.Errorf("%.300s: %d, want %d", fmt.Sprintf("%+v", l), n, want)
	}
}

func wantExpr(t *testing.T, e syntax.Expr, want int) {
	t.Helper()
	if n := bound.Expr(e); n != want {
		t.Errorf("%.300s: %d, want %d", fmt.Sprintf("%+v", e), n, want)
	}
}

// TestExample: the chapter's.
func TestExample(t *testing.T) {
	wantBlock(t, statements(t, "x = a + 1"), 7)
	wantBlock(t, statements(t, "for i 1 3 do x = i end"), 27)
	if n := bound.Rounds(5); n != 3 {
		t.Error(n)
	}
}

// TestP131Expr: expressions' steps.
func TestP131Expr(t *testing.T) {
	if bound.Most != 65536 {
		t.Error(bound.Most)
	}
	for s, want := range map[string]int{
		"1": 1, "a": 1, "a [ 1 ]": 7, "a [ b [ 1 ] ]": 13, "- 1": 3, "not a": 3, "1 + 2": 4, "1 * 2": 4, "a / b": 4, "a % b": 4, "a - b": 4, "a = b": 4, "a != b": 4, "a < b": 4, "a <= b": 4, "a > b": 4, "a >= b": 4, "a and b": 4, "a or b": 4,
		"a [ 1 + 2 ]": 10, "- a [ 1 ]": 9, "1 + 2 + 3": 7, "1 + 2 * 3": 7, "not - a": 5, "a [ 1 ] + b [ 2 ]": 16,
	} {
		e, at, err := syntax.Expression(s)
		if err != api.OK {
			t.Fatal(at)
		}
		wantExpr(t, e, want)
	}
	three := []syntax.Expr{num(1), nam("a"), of(syntax.Neg, num(1))}
	for op := -2; op < 21; op++ {
		want, none := 2+5, 2
		switch op {
		case syntax.Number, syntax.Name:
			want, none = 1, 1
		case syntax.Index:
			want, none = 6+5, 6
		}
		wantExpr(t, of(op, three...), want)
		wantExpr(t, of(op), none)
		wantExpr(t, of(op, []syntax.Expr{}...), none)
		wantExpr(t, of(syntax.Not, of(op, three...)), 2+want)
	}
	for _, op := range []int{math.MinInt, math.MaxInt} {
		wantExpr(t, of(op, three...), 7)
	}
	wantExpr(t, syntax.Expr{Op: syntax.Neg, N: 99, Name: "x"}, 2)
}

// TestP131Block: statements' steps.
func TestP131Block(t *testing.T) {
	for s, want := range map[string]int{
		"": 0, "x = 1": 4, "x = a + 1": 7, "x [ 1 ] = 2": 8, "x [ a + 1 ] = - 2": 13, "refuse": 2, "over": 2, "roll x 6": 4, "roll x 1000": 4, "seat 1": 4, "seat 1 + a": 7, "rest 1": 4, "rest x [ 1 ]": 10, "pay 1 2": 10, "pay 1 + 2 ( - 3 )": 8 + 4 + 3,
		"if a then end": 4, "if a then over end": 6, "if a then else over end": 6, "if a then over else over end": 6, "if a then over else x = 1 end": 8, "if a then x = 1 else over end": 8, "if a = 1 then over over else x = 1 end": 3 + 4 + 4, "if a then else end": 4,
		"for i 1 1 do end": 7, "for i 1 3 do end": 15, "for i 3 1 do over end": 3, "for i 1 0 do over end": 3, "for i -1 1 do over end": 3 + 3*6, "for i 1 3 do x = i end": 27, "for i 1 2 do for j 1 3 do over end end": 3 + 2*(4+3+3*(4+2)), "for i 1 2 do over over end": 3 + 2*8,
		"over refuse": 4, "x = 1 over x = 1": 10, "for i 0 63 do over end": 3 + 64*6, "if a then for i 1 2 do over end else over end": 3 + 1 + 3 + 12,
	} {
		wantBlock(t, statements(t, s), want)
	}
	e := []syntax.Expr{num(1), nam("a"), of(syntax.Neg, num(1))} // 5 steps
	l, more := statements(t, "over"), statements(t, "over x = 1")
	for kind := -2; kind < 13; kind++ {
		var want, with int
		switch kind {
		case syntax.Assign, syntax.Seat, syntax.Rest:
			want, with = 3, 3+5
		case syntax.Put:
			want, with = 6, 6+5
		case syntax.Pay:
			want, with = 8, 8+5
		case syntax.If:
			want, with = 3, 3+5+6
		case syntax.For:
			want, with = 3+3*4, 3+3*(4+2)
		case syntax.Refuse, syntax.Over:
			want, with = 2, 2
		case syntax.Roll:
			want, with = 4, 4
		default:
			want, with = 1, 1
		}
		wantBlock(t, []syntax.Stmt{{Kind: kind, Low: 1, High: 3}}, want)
		wantBlock(t, []syntax.Stmt{{Kind: kind, Low: 1, High: 3, E: e, L: l, Else: more}}, with)
		wantBlock(t, slices.Repeat([]syntax.Stmt{{Kind: kind, Low: 1, High: 3, E: e, L: l, Else: more}}, 5), 5*with)
	}
	wantBlock(t, []syntax.Stmt{{Kind: syntax.If, L: more, Else: l}}, 3+6)
	wantBlock(t, []syntax.Stmt{{Kind: math.MinInt, E: e}, {Kind: math.MaxInt, E: e}}, 2)
}

// TestP131Rounds: how often a for goes round.
func TestP131Rounds(t *testing.T) {
	for _, x := range []struct{ low, high, want int }{
		{0, 0, 7}, {0, -1, 3}, {-1, -1, 7}, {-3, 2, 3 + 6*4}, {math.MaxInt, math.MinInt, 3}, {math.MinInt, math.MaxInt, over}, {math.MinInt, math.MinInt, 7}, {math.MaxInt, math.MaxInt, 7}, {math.MaxInt - 1, math.MaxInt, 11}, {math.MinInt, math.MinInt + 1, 11}, {math.MinInt, 0, over}, {0, math.MaxInt, over}, {-1, math.MaxInt, over}, {1, math.MinInt, 3},
		{1, 16383, 65535}, {1, 16384, over}, {0, 16382, 65535}, {0, 65535, over}, {0, 65536, over}, {0, 1 << 32, over}, {0, 1<<32 - 1, over}, {0, 1 << 62, over},
	} {
		wantBlock(t, []syntax.Stmt{{Kind: syntax.For, Low: x.low, High: x.high}}, x.want)
	}
	wantBlock(t, []syntax.Stmt{{Kind: syntax.For, High: 1<<32 - 1, L: make([]syntax.Stmt, 1<<16)}}, over)
	wantBlock(t, []syntax.Stmt{{Kind: syntax.For, Low: 1, L: make([]syntax.Stmt, 1<<16)}}, 3)
}

// odds gives so many steps, of kinds that are none.
func odds(n int) []syntax.Stmt {
	return slices.Repeat([]syntax.Stmt{{Kind: -1}}, n)
}

// names gives expressions of so many steps, a name each.
func names(n int) []syntax.Expr {
	return slices.Repeat([]syntax.Expr{nam("a")}, n)
}

// TestP131Most: counting stops at one above the most.
func TestP131Most(t *testing.T) {
	for n := 65530; n <= 65545; n++ {
		most := min(n, over)
		wantBlock(t, odds(n), most)
		wantExpr(t, of(syntax.Add, names(n-2)...), most)
		wantExpr(t, of(syntax.Index, names(n-6)...), most)
		wantExpr(t, of(syntax.Neg, of(syntax.Neg, names(n-4)...)), most)
		wantBlock(t, []syntax.Stmt{{Kind: syntax.Assign, E: names(n - 3)}}, most)
		wantBlock(t, []syntax.Stmt{{Kind: syntax.If, E: names(2), L: odds(n - 5)}}, most)
		wantBlock(t, []syntax.Stmt{{Kind: syntax.If, L: odds(7), Else: odds(n - 3)}}, most)
		wantBlock(t, []syntax.Stmt{{Kind: syntax.For, L: odds(n - 7)}}, most)
		wantBlock(t, append(odds(n-9), statements(t, "over for i 1 1 do end")...), most)
	}
	for _, n := range []int{100000, 1 << 17, 1<<17 + 5, 1 << 18} {
		wantBlock(t, odds(n), over)
		wantExpr(t, of(syntax.Or, names(n)...), over)
		wantBlock(t, []syntax.Stmt{{Kind: syntax.Pay, E: names(n)}, {Kind: syntax.For, High: n, L: odds(n)}}, over)
	}
}

// TestP131Steps: those of each part, or nothing, if one has too many.
func TestP131Steps(t *testing.T) {
	want := func(p syntax.Program, want [5]int, e api.Errno) {
		t.Helper()
		if steps, err := bound.Steps(p); steps != want || err != e {
			t.Errorf("%v, %s; want %v, %s", steps, err.Word(), want, e.Word())
		}
	}
	want(syntax.Program{}, [5]int{8, 8, 8, 8, 8}, api.OK)
	p := syntax.Program{Start: odds(1), Turn: odds(2), Play: odds(3), Quiet: odds(4), Pays: odds(5), Vars: make([]syntax.Var, 9), Params: make([]syntax.Var, 4)}
	want(p, [5]int{9, 10, 11, 12, 13}, api.OK)
	for i, part := range []*[]syntax.Stmt{&p.Start, &p.Turn, &p.Play, &p.Quiet, &p.Pays} {
		was := *part
		steps := [5]int{9, 10, 11, 12, 13}
		for _, n := range []int{65520, 65527, 65528} {
			*part, steps[i] = odds(n), n+8
			want(p, steps, api.OK)
		}
		for _, n := range []int{65529, 65530, 65536, 65537, 65538, 1 << 18} {
			*part = odds(n)
			want(p, [5]int{}, api.ErrFuel)
		}
		*part = was
	}
	full := odds(65528)
	want(syntax.Program{Start: full, Turn: full, Play: full, Quiet: full, Pays: full}, [5]int{65536, 65536, 65536, 65536, 65536}, api.OK)
}

// TestP132: how many halvings.
func TestP132(t *testing.T) {
	for n, want := range map[int]int{
		math.MinInt: 0, -1: 0, 0: 0, 1: 0, 2: 1, 3: 2, 4: 2, 5: 3, 8: 3, 9: 4, 65536: 16, 65537: 17, 1<<31 - 1: 31, 1 << 31: 31, 1<<31 + 1: 32, 1<<61 + 1: 62, 1<<62 - 1: 62, 1 << 62: 62, 1<<62 + 1: 62, math.MaxInt: 62,
	} {
		if r := bound.Rounds(n); r != want {
			t.Errorf("%d: %d, want %d", n, r, want)
		}
	}
	for n := 1; n < 70000; n++ {
		halvings := 0
		for left := n; left > 1; left = (left + 1) / 2 {
			halvings++
		}
		if r := bound.Rounds(n); r != halvings {
			t.Errorf("%d: %d, want %d", n, r, halvings)
		}
	}
	for r := range 62 {
		if got := bound.Rounds(1 << r); got != r {
			t.Errorf("2^%d: %d", r, got)
		}
		if got := bound.Rounds(1<<r + 1); got != r+1 {
			t.Errorf("2^%d and 1: %d", r, got)
		}
	}
}

// The tests' own count, without a most: by the chapter's table.
func countExpr(e syntax.Expr) *big.Int {
	switch e.Op {
	case syntax.Number, syntax.Name:
		return big.NewInt(1)
	case syntax.Index:
		return plus(big.NewInt(6), countExprs(e.L))
	}
	return plus(big.NewInt(2), countExprs(e.L))
}

func countExprs(l []syntax.Expr) *big.Int {
	sum := new(big.Int)
	for _, e := range l {
		sum.Add(sum, countExpr(e))
	}
	return sum
}

func countBlock(l []syntax.Stmt) *big.Int {
	sum := new(big.Int)
	for _, s := range l {
		sum.Add(sum, countStmt(s))
	}
	return sum
}

func countStmt(s syntax.Stmt) *big.Int {
	e := countExprs(s.E)
	switch s.Kind {
	case syntax.Assign, syntax.Seat, syntax.Rest:
		return plus(big.NewInt(3), e)
	case syntax.Put:
		return plus(big.NewInt(6), e)
	case syntax.Pay:
		return plus(big.NewInt(8), e)
	case syntax.Refuse, syntax.Over:
		return big.NewInt(2)
	case syntax.Roll:
		return big.NewInt(4)
	case syntax.If:
		a, b := countBlock(s.L), countBlock(s.Else)
		if a.Cmp(b) < 0 {
			a = b
		}
		return plus(big.NewInt(3), plus(e, a))
	case syntax.For:
		rounds := big.NewInt(0)
		if s.High >= s.Low {
			rounds = plus(new(big.Int).Sub(big.NewInt(int64(s.High)), big.NewInt(int64(s.Low))), big.NewInt(1))
		}
		return plus(big.NewInt(3), rounds.Mul(rounds, plus(big.NewInt(4), countBlock(s.L))))
	}
	return big.NewInt(1)
}

func plus(a, b *big.Int) *big.Int {
	return new(big.Int).Add(a, b)
}

// capped gives a count as it is told.
func capped(n *big.Int) int {
	if n.Cmp(big.NewInt(over)) > 0 {
		return over
	}
	return int(n.Int64())
}

// maker makes trees of any form by chance.
type maker struct{ *rand.Rand }

func (m maker) expr(deep int) syntax.Expr {
	e := syntax.Expr{Op: m.Intn(22) - 2, N: m.Int(), Name: "a"}
	for range m.Intn(4) {
		if deep > 0 {
			e.L = append(e.L, m.expr(deep-1))
		}
	}
	return e
}

func (m maker) block(deep int) []syntax.Stmt {
	var l []syntax.Stmt
	for range m.Intn(5) {
		s := syntax.Stmt{Kind: m.Intn(13) - 2, Low: m.Intn(40) - 20, High: m.Intn(60) - 20}
		if m.Intn(3) == 0 {
			s.Kind = syntax.If + m.Intn(2)
		}
		for range m.Intn(4) {
			s.E = append(s.E, m.expr(2))
		}
		if deep > 0 {
			s.L, s.Else = m.block(deep-1), m.block(deep-1)
		}
		l = append(l, s)
	}
	return l
}

// TestP131Count: of trees by chance the steps are those of the table, up to the most and 1.
func TestP131Count(t *testing.T) {
	m := maker{rand.New(rand.NewSource(131))}
	much := 0
	for range 2000 {
		e, l := m.expr(5), m.block(3)
		wantExpr(t, e, capped(countExpr(e)))
		count := capped(countBlock(l))
		wantBlock(t, l, count)
		if count == over {
			much++
		}
		p := syntax.Program{Start: m.block(1), Turn: l, Play: m.block(1), Quiet: m.block(1), Pays: m.block(1)}
		var want [5]int
		fuel := api.OK
		for i, part := range [][]syntax.Stmt{p.Start, p.Turn, p.Play, p.Quiet, p.Pays} {
			want[i] = capped(plus(big.NewInt(8), countBlock(part)))
			if want[i] == over {
				fuel = api.ErrFuel
			}
		}
		if fuel != api.OK {
			want = [5]int{}
		}
		if steps, err := bound.Steps(p); steps != want || err != fuel {
			t.Errorf("%v, %s; want %v, %s", steps, err.Word(), want, fuel.Word())
		}
	}
	if much < 20 || much > 1900 {
		t.Error(much)
	}
}

// TestP133: what has a part more has no fewer steps; a block's are its halves', together.
func TestP133(t *testing.T) {
	m := maker{rand.New(rand.NewSource(133))}
	for range 2000 {
		l := m.block(2)
		all := bound.Block(l)
		for i := range len(l) + 1 {
			if sum := min(bound.Block(l[:i])+bound.Block(l[i:]), over); sum != all {
				t.Errorf("%+v at %d: %d, not %d", l, i, sum, all)
			}
			more := slices.Insert(slices.Clone(l), i, m.block(1)...)
			if n := bound.Block(more); n < all {
				t.Errorf("%+v at %d: %d, less than %d", more, i, n, all)
			}
		}
		for i, s := range l {
			within := slices.Clone(l)
			s.E = append(slices.Clone(s.E), m.expr(2))
			s.L, s.Else = append(slices.Clone(s.L), m.block(1)...), append(slices.Clone(s.Else), m.block(1)...)
			within[i] = s
			if n := bound.Block(within); n < all {
				t.Errorf("%+v: %d, less than %d", within, n, all)
			}
		}
		e := m.expr(3)
		more := e
		more.L = append(slices.Clone(e.L), m.expr(2))
		if bound.Expr(more) < bound.Expr(e) {
			t.Errorf("%+v: %d, less than %d", more, bound.Expr(more), bound.Expr(e))
		}
	}
}

// TestT6: what is printed of a tree, and read, has as many steps.
func TestT6(t *testing.T) {
	const text = "a = - 1 if a or b then x [ a ] = 3 else for i 0 9 do a = ( i - ( 1 - b ) ) end end roll a 6 pay 1 ( - 1 ) rest a * ( b + 1 ) seat 1 over refuse"
	l := statements(t, text)
	s, err := print.Block(l, 3)
	if err != api.OK {
		t.Fatal(err.Word())
	}
	wantBlock(t, statements(t, s), bound.Block(l))
	wantBlock(t, l, 6+3+(2+1+1)+3+10*(4+3+1+2+2+1+1)+4+8+1+3+3+2+1+2+2+4+2+2)
}

// TestR1: great trees.
func TestR1(t *testing.T) {
	deep, both := num(1), num(1)
	ifs, fors := odds(1), odds(1)
	for i := range 1 << 16 {
		deep = of(syntax.Neg, deep)
		ifs = []syntax.Stmt{{Kind: syntax.If, L: ifs}}
		fors = []syntax.Stmt{{Kind: syntax.For, High: math.MaxInt, L: fors}}
		if i < 60 { // each time two operands that are one: a tree of 2^60 parts
			both = of(syntax.Add, both, both)
		}
	}
	wantExpr(t, deep, over)
	wantExpr(t, both, over)
	wantBlock(t, ifs, over)
	wantBlock(t, fors, over)
	wantBlock(t, []syntax.Stmt{{Kind: syntax.Rest, E: []syntax.Expr{both, both}}}, over)
	for _, n := range []int{100, 1000, 21844} {
		l := odds(1)
		for range n {
			l = []syntax.Stmt{{Kind: syntax.If, Else: l}}
		}
		wantBlock(t, l, 3*n+1)
	}
}

// TestR4: what is handed in isn't changed, and not kept.
func TestR4(t *testing.T) {
	m := maker{rand.New(rand.NewSource(4))}
	p := syntax.Program{Start: m.block(2), Turn: m.block(2), Play: m.block(2), Quiet: m.block(2), Pays: append(m.block(2), statements(t, "rest a + 1")...)}
	was := fmt.Sprintf("%#v", p)
	steps, err := bound.Steps(p)
	bound.Block(p.Start)
	last := &p.Pays[len(p.Pays)-1].E[0]
	bound.Expr(*last)
	if is := fmt.Sprintf("%#v", p); is != was {
		t.Errorf("%s; was %s", is, was)
	}
	if again, other := bound.Steps(p); again != steps || err != other {
		t.Error(again, other)
	}
	l := statements(t, "x = a")
	wantBlock(t, l, 4)
	l[0].E[0] = of(syntax.Neg, num(1))
	wantBlock(t, l, 6)
}
