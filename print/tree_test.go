package print_test

import (
	"fmt"
	"math"
	"math/rand"
	"slices"
	"strconv"
	"strings"
	"testing"

	"baize/api"
	"baize/lex"
	"baize/print"
	"baize/syntax"
)

// told is a tree with all its fields, a list of nothing as no list.
func told(tree any) string {
	return fmt.Sprintf("%+v", tree)
}

// maker makes trees by chance, and texts of them.
type maker struct{ *rand.Rand }

// name gives one of a few.
func (m maker) name() string {
	return []string{"a", "b", "Cc", "d_4", "games"}[m.Intn(5)]
}

// signed gives a number that a text may have with a sign.
func (m maker) signed() int {
	return []int{0, 1, -1, 12, -12, math.MaxInt32, -math.MaxInt32}[m.Intn(7)]
}

func (m maker) expr(deep int) syntax.Expr {
	op := m.Intn(18)
	if deep == 0 {
		op = m.Intn(2)
	}
	switch {
	case op == syntax.Number:
		return num([]int{0, 1, 77, math.MaxInt32}[m.Intn(4)])
	case op == syntax.Name:
		return nam(m.name())
	case op == syntax.Index:
		return index(m.name(), m.expr(deep-1))
	case op == syntax.Neg, op == syntax.Not:
		return of(op, m.expr(deep-1))
	}
	return of(op, m.expr(deep-1), m.expr(deep-1))
}

func (m maker) exprs(n int) []syntax.Expr {
	var l []syntax.Expr
	for range n {
		l = append(l, m.expr(m.Intn(4)))
	}
	return l
}

func (m maker) block(deep int) []syntax.Stmt {
	var l []syntax.Stmt
	for range m.Intn(4) {
		s := syntax.Stmt{Kind: m.Intn(10)}
		switch s.Kind {
		case syntax.Assign:
			s.Name, s.E = m.name(), m.exprs(1)
		case syntax.Put:
			s.Name, s.E = m.name(), m.exprs(2)
		case syntax.If:
			if deep > 0 {
				s.L, s.Else = m.block(deep-1), m.block(deep-1)
			}
			s.E = m.exprs(1)
		case syntax.For:
			if deep > 0 {
				s.L = m.block(deep - 1)
			}
			s.Name, s.Low, s.High = m.name(), m.signed(), m.signed()
		case syntax.Roll:
			s.Name, s.Low = m.name(), m.Intn(1<<31)
		case syntax.Seat, syntax.Rest:
			s.E = m.exprs(1)
		case syntax.Pay:
			s.E = m.exprs(2)
		}
		l = append(l, s)
	}
	return l
}

func (m maker) program() syntax.Program {
	p := syntax.Program{Name: m.name(), Seats: m.Intn(1 << 31), Stakes: []int{m.Intn(1 << 31)}, Silent: m.name()}
	for range m.Intn(3) {
		p.Stakes = append(p.Stakes, m.Intn(100))
		p.Vars = append(p.Vars, syntax.Var{Name: m.name(), Size: m.Intn(3), Low: m.signed(), High: m.signed()})
	}
	for range m.Intn(4) {
		p.Params = append(p.Params, syntax.Var{Name: m.name(), Low: m.signed(), High: m.signed()})
	}
	p.Start, p.Turn, p.Play, p.Quiet, p.Pays = m.block(3), m.block(2), m.block(2), m.block(2), m.block(2)
	return p
}

// laid gives another text of the same tokens.
func (m maker) laid(s string) string {
	tokens, _, _ := lex.Tokens(s)
	var l strings.Builder
	for _, x := range tokens {
		l.WriteString([]string{" ", "\n", "\t", "  \n", "# a comment ) $\n"}[m.Intn(5)] + x.Text)
	}
	return l.String()
}

// around gives another text of the same expression, with more parentheses.
func (m maker) around(e syntax.Expr) string {
	var s string
	switch {
	case e.Op == syntax.Number:
		s = strconv.Itoa(e.N)
	case e.Op == syntax.Name:
		s = e.Name
	case e.Op == syntax.Index:
		return e.Name + "[" + m.around(e.L[0]) + "]"
	case e.Op == syntax.Neg:
		s = "-" + m.around(e.L[0])
	case e.Op == syntax.Not:
		s = "not " + m.around(e.L[0])
	default:
		for _, l := range tights {
			for _, x := range l {
				if x.op == e.Op {
					s = m.around(e.L[0]) + " " + x.mark + " " + m.around(e.L[1])
				}
			}
		}
	}
	return "(" + s + ")"
}

// TestT6: what is printed is read as it was, whatever text it came from.
func TestT6(t *testing.T) {
	m := maker{rand.New(rand.NewSource(116))}
	for range 1000 {
		p := m.program()
		s, err := print.Print(p)
		if err != api.OK {
			t.Fatalf("%s: %s", told(p), err.Word())
		}
		read, at, err := syntax.Parse(s)
		if err != api.OK || told(read) != told(p) {
			t.Fatalf("%q: %v, %s", s, at, err.Word())
		}
		other, at, err := syntax.Parse(m.laid(s))
		if err != api.OK {
			t.Fatalf("%q: %v, %s", s, at, err.Word())
		}
		if again, err := print.Print(other); again != s || err != api.OK {
			t.Fatalf("%q, %s; want %q", again, err.Word(), s)
		}
	}
}

// TestP114Alike: of one expression all texts print alike.
func TestP114Alike(t *testing.T) {
	m := maker{rand.New(rand.NewSource(114))}
	for range 2000 {
		e := m.expr(5)
		s, err := print.Expr(e)
		if err != api.OK {
			t.Fatalf("%s: %s", told(e), err.Word())
		}
		wantExpr(t, e, s)
		for _, text := range []string{m.laid(s), m.around(e), m.laid(m.around(e))} {
			read, at, err := syntax.Expression(text)
			if err != api.OK {
				t.Fatalf("%q: %v, %s", text, at, err.Word())
			}
			wantExpr(t, read, s)
		}
	}
}

// pairs gives the places of the parentheses that belong together.
func pairs(pieces []string) [][2]int {
	var l [][2]int
	var open []int
	for i, x := range pieces {
		switch x {
		case "(":
			open = append(open, i)
		case ")":
			l = append(l, [2]int{open[len(open)-1], i})
			open = open[:len(open)-1]
		}
	}
	return l
}

// TestP114Parentheses: none can be left out; and pieces have one blank between two.
func TestP114Parentheses(t *testing.T) {
	m := maker{rand.New(rand.NewSource(1140))}
	without := 0
	for range 1500 {
		e := m.expr(5)
		s, _ := print.Expr(e)
		pieces := strings.Split(s, " ")
		if tokens, _, _ := lex.Tokens(s); len(tokens) != len(pieces)+1 {
			t.Errorf("%q", s)
		}
		for _, x := range pairs(pieces) {
			without++
			less := slices.Concat(pieces[:x[0]], pieces[x[0]+1:x[1]], pieces[x[1]+1:])
			if read, _, err := syntax.Expression(strings.Join(less, " ")); err == api.OK && told(read) == told(e) {
				t.Errorf("%q needn't have those at %v", s, x)
			}
		}
	}
	if without < 2000 {
		t.Error(without)
	}
}

// odd makes an expression of any form, so deep at most.
func (m maker) odd(deep int) syntax.Expr {
	e := m.expr(1)
	switch m.Intn(6) {
	case 0:
		e.Op = m.Intn(24) - 3
	case 1:
		e.N = m.Intn(1<<33) - 1<<32
	case 2:
		e.Name = []string{"", "if", "-", "a b", "x"}[m.Intn(5)]
	case 3:
		for range m.Intn(4) {
			if deep > 0 {
				e.L = append(e.L, m.odd(deep-1))
			}
		}
	}
	return e
}

// oddBlock makes statements of any form, mostly such that are well.
func (m maker) oddBlock(deep int) []syntax.Stmt {
	l := m.block(1)
	for i := range l {
		switch m.Intn(8) {
		case 0:
			l[i].Kind = m.Intn(14) - 2
		case 1:
			l[i].E = append(l[i].E, m.odd(2))
		case 2:
			l[i].Low, l[i].High = m.Intn(5)-2, m.Intn(5)-2
		case 3:
			l[i].Name = []string{"", "a", "if", "a =", "x [ 1 ]"}[m.Intn(5)]
		case 4:
			if deep > 0 {
				l[i].L, l[i].Else = m.oddBlock(deep-1), m.oddBlock(deep-1)
			}
		}
	}
	return l
}

// TestR1: whatever a tree is, it has a text that is read as it was, or none.
func TestR1(t *testing.T) {
	m := maker{rand.New(rand.NewSource(111))}
	well, wrong := 0, 0
	for range 8000 {
		e, p := m.odd(3), m.program()
		p.Turn, p.Pays = m.oddBlock(2), m.oddBlock(1)
		s, err := print.Expr(e)
		read, _, readErr := syntax.Expression(s)
		if (err != api.OK || readErr != api.OK || told(read) != told(e)) && (err != api.ErrArg || s != "") {
			t.Errorf("%s: %q, %s", told(e), s, err.Word())
		}
		s, err = print.Print(p)
		again, _, readErr := syntax.Parse(s)
		switch {
		case err == api.OK && readErr == api.OK && told(again) == told(p):
			well++
		case err == api.ErrArg && s == "":
			wrong++
		default:
			t.Errorf("%s: %q, %s", told(p), s, err.Word())
		}
		if s, err := print.Block(p.Turn, m.Intn(17)); (s == "") != (err != api.OK || len(p.Turn) == 0) || err != api.OK && err != api.ErrArg {
			t.Errorf("%s: %q, %s", told(p.Turn), s, err.Word())
		}
	}
	if well < 1000 || wrong < 1000 {
		t.Error(well, wrong)
	}
}

// TestR1Great: trees of which a text would be far too long.
func TestR1Great(t *testing.T) {
	const levels = 1 << 16
	for _, op := range []int{syntax.Neg, syntax.Index, syntax.Sub} {
		left, right := nam("a"), nam("a")
		for range levels {
			if op == syntax.Sub {
				left, right = of(op, left, nam("b")), of(op, nam("b"), right)
			} else {
				left = syntax.Expr{Op: op, Name: "x", L: []syntax.Expr{left}}
			}
		}
		wantNone := func(e syntax.Expr) {
			if s, err := print.Expr(e); s != "" || err != api.ErrArg {
				t.Errorf("%d: %d bytes, %s", op, len(s), err.Word())
			}
		}
		wantNone(left)
		if op == syntax.Sub {
			wantNone(right)
		}
	}
	both := nam("a") // of each two operands that are one: a tree of 2^60 parts
	for range 60 {
		both = of(syntax.Add, both, both)
	}
	if s, err := print.Expr(both); s != "" || err != api.ErrArg {
		t.Errorf("%d bytes, %s", len(s), err.Word())
	}
	nested, forked := []syntax.Stmt{{Kind: syntax.Over}}, []syntax.Stmt{{Kind: syntax.Over}}
	for i := range levels {
		nested = []syntax.Stmt{{Kind: syntax.If, E: []syntax.Expr{num(1)}, L: nested}}
		if i < 60 {
			forked = []syntax.Stmt{{Kind: syntax.If, E: []syntax.Expr{both}, L: forked, Else: forked}}
		}
	}
	for _, l := range [][]syntax.Stmt{nested, forked} {
		if s, err := print.Block(l, 16); s != "" || err != api.ErrArg {
			t.Errorf("%d bytes, %s", len(s), err.Word())
		}
	}
}

// TestR3: a list of nothing is as no list.
func TestR3(t *testing.T) {
	empty := []syntax.Expr{}
	wantExpr(t, syntax.Expr{Op: syntax.Add, L: []syntax.Expr{{Op: syntax.Number, N: 1, L: empty}, {Op: syntax.Name, Name: "a", L: empty}}}, "1 + a")
	none := []syntax.Stmt{}
	p := small()
	p.Vars, p.Params, p.Start, p.Turn, p.Play, p.Quiet, p.Pays = []syntax.Var{}, []syntax.Var{}, none, none, none, none, none
	wantPrint(t, p, smallText)
	wantBlock(t, []syntax.Stmt{{Kind: syntax.Over, E: empty, L: none, Else: none}}, 0, "over\n")
}

// TestR4: what is handed in isn't changed, and not kept.
func TestR4(t *testing.T) {
	p, _, _ := syntax.Parse(all)
	was := told(p)
	for range 2 {
		wantPrint(t, p, all)
		print.Block(p.Start, 3)
		print.Expr(p.Start[1].E[0])
	}
	if told(p) != was {
		t.Errorf("%s; was %s", told(p), was)
	}
	l := []syntax.Stmt{{Kind: syntax.Seat, E: []syntax.Expr{num(1)}}}
	wantBlock(t, l, 0, "seat 1\n")
	l[0].E[0].N = 2
	wantBlock(t, l, 0, "seat 2\n")
}
