package syntax_test

import (
	"math"
	"math/rand"
	"reflect"
	"slices"
	"strconv"
	"strings"
	"testing"

	"baize/api"
	"baize/lex"
	"baize/syntax"
)

// maker makes trees by chance, and texts of them.
type maker struct{ *rand.Rand }

// name gives one of a few.
func (m maker) name() string {
	return []string{"a", "b", "Cc", "d_4", "games"}[m.Intn(5)]
}

// signed gives a number that a text may have with a sign.
func (m maker) signed() int {
	return []int{0, 1, -1, 12, -12, math.MaxInt32, -math.MaxInt32}[m.Intn(7)]
}

func (m maker) expr(deep int) syntax.Expr {
	op := m.Intn(18)
	if deep == 0 {
		op = m.Intn(2)
	}
	switch {
	case op == syntax.Number:
		return num([]int{0, 1, 77, math.MaxInt32}[m.Intn(4)])
	case op == syntax.Name:
		return nam(m.name())
	case op == syntax.Index:
		return index(m.name(), m.expr(deep-1))
	case op == syntax.Neg, op == syntax.Not:
		return of(op, m.expr(deep-1))
	}
	return of(op, m.expr(deep-1), m.expr(deep-1))
}

func (m maker) exprs(n int) []syntax.Expr {
	var l []syntax.Expr
	for range n {
		l = append(l, m.expr(m.Intn(4)))
	}
	return l
}

func (m maker) block(deep int) []syntax.Stmt {
	var l []syntax.Stmt
	for range m.Intn(4) {
		s := syntax.Stmt{Kind: m.Intn(10)}
		switch s.Kind {
		case syntax.Assign:
			s.Name, s.E = m.name(), m.exprs(1)
		case syntax.Put:
			s.Name, s.E = m.name(), m.exprs(2)
		case syntax.If:
			if deep > 0 {
				s.L, s.Else = m.block(deep-1), m.block(deep-1)
			}
			s.E = m.exprs(1)
		case syntax.For:
			if deep > 0 {
				s.L = m.block(deep - 1)
			}
			s.Name, s.Low, s.High = m.name(), m.signed(), m.signed()
		case syntax.Roll:
			s.Name, s.Low = m.name(), m.Intn(1<<31)
		case syntax.Seat, syntax.Rest:
			s.E = m.exprs(1)
		case syntax.Pay:
			s.E = m.exprs(2)
		}
		l = append(l, s)
	}
	return l
}

func (m maker) program() syntax.Program {
	p := syntax.Program{Name: m.name(), Seats: m.Intn(1 << 31), Stakes: []int{m.Intn(1 << 31)}, Silent: m.name()}
	for range m.Intn(3) {
		p.Stakes = append(p.Stakes, m.Intn(100))
		p.Vars = append(p.Vars, syntax.Var{Name: m.name(), Size: m.Intn(3), Low: m.signed(), High: m.signed()})
	}
	for range m.Intn(3) {
		p.Params = append(p.Params, syntax.Var{Name: m.name(), Low: m.signed(), High: m.signed()})
	}
	p.Start, p.Turn, p.Play, p.Quiet, p.Pays = m.block(2), m.block(2), m.block(2), m.block(2), m.block(2)
	return p
}

// tight tells, of an operation, how tight it is, and its mark.
func tight(op int) (int, string) {
	marks := strings.Fields("* / % + - = != < <= > >= and or")
	switch {
	case op < syntax.Mul:
		return 5, ""
	case op <= syntax.Rem:
		return 4, marks[op-syntax.Mul]
	case op <= syntax.Sub:
		return 3, marks[op-syntax.Mul]
	case op <= syntax.Ge:
		return 2, marks[op-syntax.Mul]
	}
	return syntax.Or - op, marks[op-syntax.Mul]
}

// exprTokens gives an expression's pieces, in parentheses where it isn't so tight, and by chance where it is.
func (m maker) exprTokens(e syntax.Expr, need int) []string {
	is, mark := tight(e.Op)
	if is < need || m.Intn(6) == 0 {
		return slices.Concat([]string{"("}, m.exprTokens(e, 0), []string{")"})
	}
	switch e.Op {
	case syntax.Number:
		return []string{strconv.Itoa(e.N)}
	case syntax.Name:
		return []string{e.Name}
	case syntax.Index:
		return slices.Concat([]string{e.Name, "["}, m.exprTokens(e.L[0], 0), []string{"]"})
	case syntax.Neg:
		return append([]string{"-"}, m.exprTokens(e.L[0], 5)...)
	case syntax.Not:
		return append([]string{"not"}, m.exprTokens(e.L[0], 5)...)
	}
	left := is
	if is == 2 {
		left = 3
	}
	return slices.Concat(m.exprTokens(e.L[0], left), []string{mark}, m.exprTokens(e.L[1], is+1))
}

func intTokens(l ...int) []string {
	var out []string
	for _, n := range l {
		if n < 0 {
			out = append(out, "-")
		}
		out = append(out, strings.TrimPrefix(strconv.Itoa(n), "-"))
	}
	return out
}

func (m maker) blockTokens(l []syntax.Stmt) []string {
	var out []string
	add := func(l ...string) { out = append(out, l...) }
	for _, s := range l {
		switch s.Kind {
		case syntax.Assign:
			add(s.Name, "=")
			add(m.exprTokens(s.E[0], 0)...)
		case syntax.Put:
			add(s.Name, "[")
			add(m.exprTokens(s.E[0], 0)...)
			add("]", "=")
			add(m.exprTokens(s.E[1], 0)...)
		case syntax.If:
			add("if")
			add(m.exprTokens(s.E[0], 0)...)
			add("then")
			add(m.blockTokens(s.L)...)
			if len(s.Else) > 0 || m.Intn(2) == 0 {
				add("else")
				add(m.blockTokens(s.Else)...)
			}
			add("end")
		case syntax.For:
			add("for", s.Name)
			add(intTokens(s.Low, s.High)...)
			add("do")
			add(m.blockTokens(s.L)...)
			add("end")
		case syntax.Roll:
			add("roll", s.Name, strconv.Itoa(s.Low))
		case syntax.Pay:
			add("pay")
			add(m.exprTokens(s.E[0], 0)...)
			second := m.exprTokens(s.E[1], 0)
			if second[0] == "-" {
				second = slices.Concat([]string{"("}, second, []string{")"})
			}
			add(second...)
		case syntax.Seat:
			add("seat")
			add(m.exprTokens(s.E[0], 0)...)
		case syntax.Rest:
			add("rest")
			add(m.exprTokens(s.E[0], 0)...)
		default:
			add(map[int]string{syntax.Refuse: "refuse", syntax.Over: "over"}[s.Kind])
		}
	}
	return out
}

// tokens gives a program's pieces.
func (m maker) tokens(p syntax.Program) []string {
	out := append([]string{"game", p.Name, "seats", strconv.Itoa(p.Seats), "stake"}, intTokens(p.Stakes...)...)
	for _, v := range p.Vars {
		out = append(out, "var", v.Name)
		if v.Size > 0 {
			out = append(out, "[", strconv.Itoa(v.Size), "]")
		}
		out = append(out, intTokens(v.Low, v.High)...)
	}
	out = slices.Concat(out, []string{"start"}, m.blockTokens(p.Start), []string{"end", "turn"}, m.blockTokens(p.Turn), []string{"end", "play"})
	for i, v := range p.Params {
		if i > 0 {
			out = append(out, ",")
		}
		out = append(append(out, v.Name), intTokens(v.Low, v.High)...)
	}
	return slices.Concat(out, m.blockTokens(p.Play), []string{"end", "silent", p.Silent}, m.blockTokens(p.Quiet), []string{"end", "pay"}, m.blockTokens(p.Pays), []string{"end"})
}

// laid gives a text of pieces, laid out by chance.
func (m maker) laid(l []string) string {
	var s strings.Builder
	for i, x := range l {
		if i > 0 && strings.Contains("[](),+-*/%", x) && m.Intn(2) == 0 {
			s.WriteString(x)
			continue
		}
		s.WriteString([]string{" ", "\n", "\t", "  \n", "# a comment ) $\n", "\n\n#\n"}[m.Intn(6)] + x)
	}
	return s.String()
}

// TestT6: what is written of a tree is read as that tree.
func TestT6(t *testing.T) {
	m := maker{rand.New(rand.NewSource(6))}
	for range 4000 {
		p := m.program()
		wantProgram(t, strings.Join(m.tokens(p), " "), p)
		e := m.expr(5)
		wantExpr(t, strings.Join(m.exprTokens(e, 0), " "), e)
	}
}

// TestP104: how a text is laid out plays no part.
func TestP104(t *testing.T) {
	m := maker{rand.New(rand.NewSource(104))}
	for range 1500 {
		p := m.program()
		wantProgram(t, m.laid(m.tokens(p)), p)
		e := m.expr(4)
		wantExpr(t, m.laid(m.exprTokens(e, 0)), e)
		wantExpr(t, "( ("+m.laid(m.exprTokens(e, 0))+"\n))", e)
	}
	tokens, _, _ := lex.Tokens(all)
	joined, err := lex.Join(tokens)
	if err != api.OK {
		t.Fatal(err)
	}
	wantProgram(t, joined, allTree())
	wantProgram(t, strings.ReplaceAll(joined, " ", "\n"), allTree())
}

// walk visits each value within one, from within to without.
func walk(v reflect.Value, visit func(v reflect.Value)) {
	switch v.Kind() {
	case reflect.Struct:
		for i := range v.NumField() {
			walk(v.Field(i), visit)
		}
	case reflect.Slice:
		for i := range v.Len() {
			walk(v.Index(i), visit)
		}
	}
	visit(v)
}

// TestP103Same: field by field.
func TestP103Same(t *testing.T) {
	a, b := allTree(), allTree()
	if !syntax.Same(a, b) || !syntax.Same(b, a) || !syntax.Same(a, a) || !syntax.Same(syntax.Program{}, syntax.Program{}) {
		t.Error("what is the same isn't")
	}
	if syntax.Same(a, syntax.Program{}) || syntax.Same(syntax.Program{}, a) {
		t.Error("a program is none")
	}
	changes := 0
	differ := func(what string) {
		changes++
		if syntax.Same(a, b) || syntax.Same(b, a) {
			t.Errorf("the same, though a field is other: %s", what)
		}
	}
	walk(reflect.ValueOf(&b).Elem(), func(v reflect.Value) {
		was := reflect.New(v.Type()).Elem()
		was.Set(v)
		switch v.Kind() {
		case reflect.Int:
			v.SetInt(v.Int() + 1)
			differ("a number")
		case reflect.String:
			v.SetString(v.String() + "x")
			differ("a name")
		case reflect.Slice:
			v.Set(reflect.Append(was, reflect.Zero(v.Type().Elem())))
			differ("one more")
			if was.Len() > 0 {
				v.Set(was.Slice(0, was.Len()-1))
				differ("one less")
			}
		}
		v.Set(was)
	})
	if !syntax.Same(a, b) || changes < 400 {
		t.Error(changes)
	}
	walk(reflect.ValueOf(&b).Elem(), func(v reflect.Value) {
		if v.Kind() == reflect.Slice && v.Len() == 0 {
			v.Set(reflect.MakeSlice(v.Type(), 0, 3))
		}
	})
	if !syntax.Same(a, b) || !syntax.Same(b, a) {
		t.Error("a list of nothing isn't as no list")
	}
}

// odd makes an expression of any form, so deep at most, and tells how many it is and how deep.
func (m maker) odd(deep int) (syntax.Expr, int, int) {
	e := syntax.Expr{Op: m.Intn(40) - 10, N: m.Int(), Name: m.name()}
	size, depth := 1, 0
	for range m.Intn(4) {
		if deep > 0 {
			x, n, d := m.odd(deep - 1)
			e.L, size, depth = append(e.L, x), size+n, max(depth, d)
		}
	}
	return e, size, depth + 1
}

// oddBlock makes statements of any form, and tells how many they are, with all within.
func (m maker) oddBlock(deep int) ([]syntax.Stmt, int) {
	var l []syntax.Stmt
	size := 0
	for range m.Intn(4) {
		s := syntax.Stmt{Kind: m.Intn(30) - 10, Name: m.name(), Low: m.Int(), High: m.Int()}
		for range m.Intn(3) {
			e, n, _ := m.odd(2)
			s.E, size = append(s.E, e), size+n
		}
		if deep > 0 {
			var n, k int
			s.L, n = m.oddBlock(deep - 1)
			s.Else, k = m.oddBlock(deep - 1)
			size += n + k
		}
		l, size = append(l, s), size+1
	}
	return l, size
}

// TestP103Size: how many a program has.
func TestP103Size(t *testing.T) {
	if n := syntax.Size(syntax.Program{}); n != 0 {
		t.Error(n)
	}
	if n := syntax.Size(syntax.Program{Name: "g", Seats: 3, Stakes: []int{1, 2, 3}, Silent: "s"}); n != 0 {
		t.Error(n)
	}
	// x [ 1 ] = 2 + a, and an if around it with a for behind it: statements 3, expressions 1, 3, 1.
	put := syntax.Stmt{Kind: syntax.Put, Name: "x", E: []syntax.Expr{num(1), of(syntax.Add, num(2), nam("a"))}}
	both := []syntax.Stmt{{Kind: syntax.If, E: []syntax.Expr{nam("a")}, L: []syntax.Stmt{put}, Else: []syntax.Stmt{{Kind: syntax.For}}}}
	v := []syntax.Var{{}, {Size: 9}}
	for _, x := range []struct {
		p    syntax.Program
		want int
	}{
		{syntax.Program{Start: both}, 8}, {syntax.Program{Turn: both}, 8}, {syntax.Program{Play: both}, 8}, {syntax.Program{Quiet: both}, 8}, {syntax.Program{Pays: both}, 8},
		{syntax.Program{Vars: v}, 2}, {syntax.Program{Params: v}, 2}, {syntax.Program{Stakes: []int{1, 2}}, 0},
		{syntax.Program{Vars: v, Start: both, Turn: both, Params: v, Play: both, Quiet: both, Pays: both}, 44},
	} {
		if n := syntax.Size(x.p); n != x.want {
			t.Errorf("%+v: %d, want %d", x.p, n, x.want)
		}
	}
	m := maker{rand.New(rand.NewSource(103))}
	for range 300 {
		var p syntax.Program
		sum := 0
		for _, part := range []*[]syntax.Stmt{&p.Start, &p.Turn, &p.Play, &p.Quiet, &p.Pays} {
			l, n := m.oddBlock(2)
			*part, sum = l, sum+n
		}
		p.Vars, p.Params, p.Stakes = make([]syntax.Var, m.Intn(4)), make([]syntax.Var, m.Intn(4)), make([]int, m.Intn(4))
		if n := syntax.Size(p); n != sum+len(p.Vars)+len(p.Params) {
			t.Errorf("%d, want %d", n, sum+len(p.Vars)+len(p.Params))
		}
	}
}

// TestP103Deep: how deep an expression is.
func TestP103Deep(t *testing.T) {
	for _, x := range []struct {
		e    syntax.Expr
		want int
	}{
		{syntax.Expr{}, 1}, {num(1), 1}, {nam("a"), 1}, {syntax.Expr{Op: 99}, 1}, {index("a", num(1)), 2}, {of(syntax.Neg, num(1)), 2}, {of(syntax.Add, num(1), num(2)), 2},
		{of(syntax.Add, of(syntax.Not, num(1)), num(2)), 3}, {of(syntax.Add, num(1), of(syntax.Not, num(2))), 3}, {of(syntax.Number, of(syntax.Number, of(syntax.Number))), 3}, {syntax.Expr{L: make([]syntax.Expr, 9)}, 2},
	} {
		if n := syntax.Deep(x.e); n != x.want {
			t.Errorf("%+v: %d, want %d", x.e, n, x.want)
		}
	}
	m := maker{rand.New(rand.NewSource(1030))}
	for range 500 {
		e, _, want := m.odd(m.Intn(6))
		if n := syntax.Deep(e); n != want {
			t.Errorf("%+v: %d, want %d", e, n, want)
		}
	}
	e := num(1)
	for range 1 << 16 {
		e = of(syntax.Neg, e)
	}
	if n := syntax.Deep(e); n != 1<<16+1 {
		t.Error(n)
	}
}

// TestR1: whatever a text is, there is an answer, and beside an error nothing.
func TestR1(t *testing.T) {
	m := maker{rand.New(rand.NewSource(1))}
	parts := append(pieces(), "\n", " ", "#", "$", "\x00", "\xff", "007", "!")
	for range 20000 {
		var l []string
		for range m.Intn(30) {
			l = append(l, parts[m.Intn(len(parts))])
		}
		s := strings.Join(l, []string{"", " "}[m.Intn(2)])
		if p, at, err := syntax.Parse(s); (at == syntax.Place{}) != (err == api.OK) || err != api.OK && told(p) != told(syntax.Program{}) {
			t.Errorf("%q: %v, %v, %s", s, p, at, err.Word())
		}
		if e, at, err := syntax.Expression(s); (at == syntax.Place{}) != (err == api.OK) || err != api.OK && told(e) != told(syntax.Expr{}) {
			t.Errorf("%q: %v, %v, %s", s, e, at, err.Word())
		}
	}
}

// TestR4: what is handed in isn't changed; answers are new memory, and no two lists of one share any.
func TestR4(t *testing.T) {
	p, _, _ := syntax.Parse(all)
	walk(reflect.ValueOf(&p).Elem(), func(v reflect.Value) {
		if v.Kind() == reflect.Slice {
			reflect.Append(v, reflect.Zero(v.Type().Elem()))
			if told(p) != told(allTree()) {
				t.Error("two lists share memory")
			}
		}
	})
	q := p
	if !syntax.Same(p, q) || syntax.Size(p) == 0 || told(p) != told(allTree()) {
		t.Error("a tree was changed")
	}
	walk(reflect.ValueOf(&q).Elem(), func(v reflect.Value) { v.SetZero() })
	wantProgram(t, all, allTree())
	e, _, _ := syntax.Expression("a + b")
	syntax.Deep(e)
	clear(e.L)
	wantExpr(t, "a + b", of(syntax.Add, nam("a"), nam("b")))
}
