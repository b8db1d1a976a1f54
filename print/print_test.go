package print_test

import (
	"math"
	"slices"
	"strings"
	"testing"

	"baize/api"
	"baize/print"
	"baize/syntax"
)

const mostText = 65536

func num(n int) syntax.Expr {
	return syntax.Expr{Op: syntax.Number, N: n}
}

func nam(s string) syntax.Expr {
	return syntax.Expr{Op: syntax.Name, Name: s}
}

func index(s string, at syntax.Expr) syntax.Expr {
	return syntax.Expr{Op: syntax.Index, Name: s, L: []syntax.Expr{at}}
}

func of(op int, l ...syntax.Expr) syntax.Expr {
	return syntax.Expr{Op: op, L: l}
}

// wantExpr looks whether an expression has that text, and is read from it.
func wantExpr(t *testing.T, e syntax.Expr, want string) {
	t.Helper()
	s, err := print.Expr(e)
	if s != want || err != api.OK {
		t.Errorf("%.200q, %s; want %.200q", s, err.Word(), want)
	}
	if read, _, err := syntax.Expression(want); err != api.OK || told(read) != told(e) {
		t.Errorf("%.200q is %.200s, not %.200s", want, told(read), told(e))
	}
}

// wantNoExpr looks whether an expression has no text.
func wantNoExpr(t *testing.T, e syntax.Expr) {
	t.Helper()
	if s, err := print.Expr(e); s != "" || err != api.ErrArg {
		t.Errorf("%.200s: %.200q, %s", told(e), s, err.Word())
	}
}

// wantPrint looks whether a program has that text, and is read from it.
func wantPrint(t *testing.T, p syntax.Program, want string) {
	t.Helper()
	s, err := print.Print(p)
	if s != want || err != api.OK {
		t.Errorf("%.900q, %s; want\n%.900q", s, err.Word(), want)
	}
	if read, at, err := syntax.Parse(want); err != api.OK || !syntax.Same(read, p) {
		t.Errorf("%.200q: %v, %s: not %.200s", want, at, err.Word(), told(p))
	}
}

// wantNoPrint looks whether a program has no text.
func wantNoPrint(t *testing.T, what string, p syntax.Program) {
	t.Helper()
	if s, err := print.Print(p); s != "" || err != api.ErrArg {
		t.Errorf("%s: %.200q, %s", what, s, err.Word())
	}
}

// wantBlock looks whether statements have those lines.
func wantBlock(t *testing.T, l []syntax.Stmt, deep int, want string) {
	t.Helper()
	if s, err := print.Block(l, deep); s != want || err != api.OK {
		t.Errorf("%.200s, %d: %.200q, %s; want %.200q", told(l), deep, s, err.Word(), want)
	}
}

// wantNoBlock looks whether statements have none.
func wantNoBlock(t *testing.T, l []syntax.Stmt, deep int, want api.Errno) {
	t.Helper()
	if s, err := print.Block(l, deep); s != "" || err != want {
		t.Errorf("%.200s, %d: %.200q, %s; want %s", told(l), deep, s, err.Word(), want.Word())
	}
}

// TestExample: the chapter's.
func TestExample(t *testing.T) {
	wantExpr(t, of(syntax.Sub, num(1), of(syntax.Sub, num(2), num(3))), "1 - ( 2 - 3 )")
	wantExpr(t, of(syntax.Neg, of(syntax.Add, nam("a"), num(1))), "- ( a + 1 )")
	wantExpr(t, of(syntax.Eq, of(syntax.Eq, nam("a"), nam("b")), nam("c")), "( a = b ) = c")
}

// TestP111Text: texts of expressions.
func TestP111Text(t *testing.T) {
	a, b, c := nam("a"), nam("b"), nam("c")
	for _, x := range []struct {
		e    syntax.Expr
		want string
	}{
		{num(0), "0"}, {num(7), "7"}, {num(2147483647), "2147483647"}, {a, "a"}, {nam("x_9"), "x_9"}, {nam(strings.Repeat("n", 30)), strings.Repeat("n", 30)},
		{index("x", num(1)), "x [ 1 ]"}, {index("x", of(syntax.Or, a, b)), "x [ a or b ]"}, {index("x", index("y", of(syntax.Neg, a))), "x [ y [ - a ] ]"},
		{of(syntax.Neg, num(5)), "- 5"}, {of(syntax.Neg, of(syntax.Neg, a)), "- - a"}, {of(syntax.Not, of(syntax.Not, a)), "not not a"}, {of(syntax.Neg, of(syntax.Not, a)), "- not a"}, {of(syntax.Not, of(syntax.Neg, a)), "not - a"}, {of(syntax.Not, index("x", a)), "not x [ a ]"},
		{of(syntax.Mul, of(syntax.Neg, a), b), "- a * b"}, {of(syntax.Mul, a, of(syntax.Neg, b)), "a * - b"}, {of(syntax.Sub, a, of(syntax.Neg, b)), "a - - b"}, {of(syntax.And, of(syntax.Not, a), b), "not a and b"},
		{of(syntax.Sub, of(syntax.Sub, a, b), c), "a - b - c"}, {of(syntax.Mul, of(syntax.Add, a, b), c), "( a + b ) * c"}, {of(syntax.Add, of(syntax.Mul, a, b), c), "a * b + c"}, {of(syntax.Lt, a, of(syntax.Lt, b, c)), "a < ( b < c )"},
		{of(syntax.Or, of(syntax.And, a, b), of(syntax.Or, b, c)), "a and b or ( b or c )"}, {of(syntax.Mul, of(syntax.Neg, of(syntax.Or, a, b)), index("x", of(syntax.Eq, a, b))), "- ( a or b ) * x [ a = b ]"},
	} {
		wantExpr(t, x.e, x.want)
	}
}

// tights are the operations of two operands, from loose to tight, with their marks.
var tights = [][]struct {
	op   int
	mark string
}{
	{{syntax.Or, "or"}},
	{{syntax.And, "and"}},
	{{syntax.Eq, "="}, {syntax.Ne, "!="}, {syntax.Lt, "<"}, {syntax.Le, "<="}, {syntax.Gt, ">"}, {syntax.Ge, ">="}},
	{{syntax.Add, "+"}, {syntax.Sub, "-"}},
	{{syntax.Mul, "*"}, {syntax.Div, "/"}, {syntax.Rem, "%"}},
}

// TestP111Tight: each operation as an operand of each other one, on both sides.
func TestP111Tight(t *testing.T) {
	a, b, c := nam("a"), nam("b"), nam("c")
	in := func(s string, are bool) string {
		if are {
			return "( " + s + " )"
		}
		return s
	}
	for i, outs := range tights {
		for _, out := range outs {
			for j, withins := range tights {
				for _, x := range withins {
					within, text := of(x.op, a, b), "a "+x.mark+" b"
					wantExpr(t, of(out.op, within, c), in(text, j < i || i == 2 && j == 2)+" "+out.mark+" c")
					wantExpr(t, of(out.op, c, within), "c "+out.mark+" "+in(text, j <= i))
				}
			}
			text := "a " + out.mark + " b"
			wantExpr(t, of(syntax.Neg, of(out.op, a, b)), "- ( "+text+" )")
			wantExpr(t, of(syntax.Not, of(out.op, a, b)), "not ( "+text+" )")
			wantExpr(t, of(out.op, of(syntax.Neg, a), of(syntax.Not, b)), "- a "+out.mark+" not b")
			wantExpr(t, of(out.op, index("x", a), num(1)), "x [ a ] "+out.mark+" 1")
			wantExpr(t, index("x", of(out.op, a, b)), "x [ "+text+" ]")
		}
	}
}

// TestP111Wrong: expressions without a text.
func TestP111Wrong(t *testing.T) {
	a := nam("a")
	for _, op := range []int{-1, 18, 19, math.MinInt, math.MaxInt} {
		for n := range 4 {
			e := of(op, make([]syntax.Expr, n)...)
			for _, x := range []syntax.Expr{e, of(syntax.Not, e), of(syntax.Div, e, a), of(syntax.Div, a, e), index("x", e)} {
				wantNoExpr(t, x)
			}
		}
	}
	for op := range 18 {
		counts := map[int]int{syntax.Number: 0, syntax.Name: 0, syntax.Index: 1, syntax.Neg: 1, syntax.Not: 1}
		want, few := counts[op]
		if !few {
			want = 2
		}
		for n := range 5 {
			e := of(op, slices.Repeat([]syntax.Expr{a}, n)...)
			if op == syntax.Name || op == syntax.Index {
				e.Name = "x"
			}
			if n != want {
				wantNoExpr(t, e)
				wantNoExpr(t, of(syntax.Add, e, a))
				wantNoExpr(t, of(syntax.Add, a, e))
				wantNoExpr(t, of(syntax.Neg, e))
				wantNoExpr(t, index("x", e))
				continue
			}
			if s, err := print.Expr(e); s == "" || err != api.OK {
				t.Errorf("%s: %q, %s", told(e), s, err.Word())
			}
			other := e
			other.N++
			if op != syntax.Number {
				wantNoExpr(t, other)
				wantNoExpr(t, of(syntax.Mul, other, a))
			}
			other = e
			other.Name = "y"
			if op != syntax.Name && op != syntax.Index {
				wantNoExpr(t, other)
				wantNoExpr(t, of(syntax.Mul, a, other))
			}
		}
	}
	for _, n := range []int{-1, -5, -2147483648, 2147483648, math.MinInt, math.MaxInt} {
		wantNoExpr(t, num(n))
		wantNoExpr(t, of(syntax.Add, a, num(n)))
	}
	for _, s := range []string{"", " ", "if", "not", "not a", "- a", "-a", "1", "0", "a b", "a+b", "a + b", "( a )", "(a)", " a", "a ", "a # b", "a\n", "x [ 1 ]", "_a", "é", "a$", strings.Repeat("n", 31), strings.Repeat("n", mostText), strings.Repeat("n", mostText+1)} {
		wantNoExpr(t, nam(s))
		wantNoExpr(t, index(s, a))
		wantNoExpr(t, of(syntax.Sub, nam(s), a))
		wantNoExpr(t, of(syntax.Sub, a, nam(s)))
	}
}

// TestP111Deep: what is too deep to be read has no text, and how deep it is hangs on parentheses.
func TestP111Deep(t *testing.T) {
	for _, op := range []int{syntax.Neg, syntax.Not, syntax.Index} {
		e := nam("a")
		for n := 1; n <= 15; n++ {
			e = of(op, e)
			if op == syntax.Index {
				e.Name = "x"
			}
			if s, err := print.Expr(e); s == "" || err != api.OK {
				t.Errorf("%d of %d: %q, %s", n, op, s, err.Word())
			}
		}
		e = syntax.Expr{Op: op, Name: e.Name, L: []syntax.Expr{e}}
		wantNoExpr(t, e)
		wantNoExpr(t, of(syntax.Add, nam("b"), e))
	}
	left, right, text := nam("a"), nam("a"), "a"
	for n := 1; n <= 16; n++ {
		left, right = of(syntax.Sub, left, nam("b")), of(syntax.Sub, nam("b"), right)
		text += " - b"
		wantExpr(t, left, text)
		if n == 1 {
			wantExpr(t, right, "b - a")
		} else {
			wantExpr(t, right, strings.Repeat("b - ( ", n-1)+"b - a"+strings.Repeat(" )", n-1))
		}
	}
	wantNoExpr(t, of(syntax.Sub, nam("b"), right))
}

// chain is an expression, and its text: so many, the first of them of so many bytes.
func chain(count, first int) (syntax.Expr, string) {
	name := strings.Repeat("n", first)
	e := nam(name)
	for range count - 1 {
		e = of(syntax.Add, e, nam("a"))
	}
	return e, name + strings.Repeat(" + a", count-1)
}

// TestP111Long: a text may be as long as one that is read, and no longer.
func TestP111Long(t *testing.T) {
	for first := 1; first <= 12; first++ {
		e, text := chain(mostText/4-1, first) // 7 bytes less than may be, with a name of one
		if len(text) > mostText {
			wantNoExpr(t, e)
		} else if s, err := print.Expr(e); s != text || err != api.OK {
			t.Errorf("%d bytes: %.30q, %s", len(text), s, err.Word())
		}
	}
	if _, text := chain(mostText/4-1, 8); len(text) != mostText {
		t.Error(len(text))
	}
}

// small is a program of hardly anything.
func small() syntax.Program {
	return syntax.Program{Name: "g", Seats: 2, Stakes: []int{1, 1}, Silent: "s"}
}

const smallText = "game g\nseats 2\nstake 1 1\nstart\nend\nturn\nend\nplay\nend\nsilent s\nend\npay\nend\n"

// all has each thing that there is, as it is printed.
const all = `game tic_tac
seats 3
stake 1 20 2147483647
var a 0 7
var b -5 -1
var c [ 9 ] -2147483647 2147483647
start
  a = 1
  c [ 1 + a ] = - 2
  if a then
  end
  if a = 1 then
    b = 2
    c [ 0 ] = c [ 1 ]
  else
    for i -1 3 do
      a = i
      for j -2 -1 do
      end
    end
    if not a then
    else
      over
    end
  end
end
turn
  if ( a = b ) = 1 then
    seat a - ( b - 1 )
  else
    over
  end
end
play n 1 3, m -2 2, k 0 0
  refuse
  if n < m or m then
    refuse
  else
    roll a 6
  end
  roll b 2147483647
end
silent who
  a = who
end
pay
  pay 0 a
  pay a + 1 ( - 1 )
  pay - a not b
  rest 2
end
`

// TestP112Text: texts of programs.
func TestP112Text(t *testing.T) {
	p, at, err := syntax.Parse(strings.ReplaceAll(strings.ReplaceAll(all, "\n", "\n# no matter\n\t"), "  ", ""))
	if err != api.OK {
		t.Fatal(at, err.Word())
	}
	wantPrint(t, p, all)
	wantPrint(t, small(), smallText)
	one := small()
	one.Params = []syntax.Var{{Name: "n", Low: -3, High: 4}}
	one.Stakes = []int{0}
	one.Seats = 0
	one.Play = []syntax.Stmt{{Kind: syntax.Assign, Name: "a", E: []syntax.Expr{num(1)}}}
	wantPrint(t, one, "game g\nseats 0\nstake 0\nstart\nend\nturn\nend\nplay n -3 4\n  a = 1\nend\nsilent s\nend\npay\nend\n")
}

// TestP112Statement: the lines of each kind.
func TestP112Statement(t *testing.T) {
	a, b := nam("a"), nam("b")
	over := []syntax.Stmt{{Kind: syntax.Over}}
	for _, x := range []struct {
		s    syntax.Stmt
		want string
	}{
		{syntax.Stmt{Kind: syntax.Assign, Name: "a", E: []syntax.Expr{of(syntax.Neg, b)}}, "a = - b\n"},
		{syntax.Stmt{Kind: syntax.Put, Name: "a", E: []syntax.Expr{of(syntax.Or, a, b), num(2)}}, "a [ a or b ] = 2\n"},
		{syntax.Stmt{Kind: syntax.If, E: []syntax.Expr{of(syntax.Eq, a, b)}}, "if a = b then\nend\n"},
		{syntax.Stmt{Kind: syntax.If, E: []syntax.Expr{a}, L: over}, "if a then\n  over\nend\n"},
		{syntax.Stmt{Kind: syntax.If, E: []syntax.Expr{a}, Else: over}, "if a then\nelse\n  over\nend\n"},
		{syntax.Stmt{Kind: syntax.If, E: []syntax.Expr{a}, L: over, Else: []syntax.Stmt{}}, "if a then\n  over\nend\n"},
		{syntax.Stmt{Kind: syntax.For, Name: "i", Low: -1, High: 12}, "for i -1 12 do\nend\n"},
		{syntax.Stmt{Kind: syntax.For, Name: "i", Low: 3, High: -2147483647, L: over}, "for i 3 -2147483647 do\n  over\nend\n"},
		{syntax.Stmt{Kind: syntax.Refuse}, "refuse\n"},
		{syntax.Stmt{Kind: syntax.Roll, Name: "a", Low: 6}, "roll a 6\n"},
		{syntax.Stmt{Kind: syntax.Roll, Name: "a"}, "roll a 0\n"},
		{syntax.Stmt{Kind: syntax.Seat, E: []syntax.Expr{of(syntax.Neg, a)}}, "seat - a\n"},
		{syntax.Stmt{Kind: syntax.Over}, "over\n"},
		{syntax.Stmt{Kind: syntax.Pay, E: []syntax.Expr{a, b}}, "pay a b\n"},
		{syntax.Stmt{Kind: syntax.Rest, E: []syntax.Expr{of(syntax.Neg, num(1))}}, "rest - 1\n"},
	} {
		wantBlock(t, []syntax.Stmt{x.s}, 0, x.want)
		p := small()
		p.Pays = []syntax.Stmt{x.s}
		lines := "  " + strings.ReplaceAll(strings.TrimSuffix(x.want, "\n"), "\n", "\n  ") + "\n"
		wantPrint(t, p, strings.TrimSuffix(smallText, "end\n")+lines+"end\n")
		for _, l := range [][]syntax.Expr{append(slices.Clone(x.s.E), a), append(slices.Clone(x.s.E), a, b), x.s.E[:max(0, len(x.s.E)-1)], nil} {
			other := x.s
			other.E = l
			if len(l) != len(x.s.E) {
				wantNoBlock(t, []syntax.Stmt{other}, 0, api.ErrArg)
				wantNoBlock(t, []syntax.Stmt{{Kind: syntax.For, Name: "i", L: []syntax.Stmt{other}}}, 0, api.ErrArg)
				wantNoBlock(t, []syntax.Stmt{{Kind: syntax.If, E: []syntax.Expr{a}, L: []syntax.Stmt{other}}}, 0, api.ErrArg)
				wantNoBlock(t, []syntax.Stmt{{Kind: syntax.If, E: []syntax.Expr{a}, Else: []syntax.Stmt{other}}}, 0, api.ErrArg)
			}
		}
	}
}

// TestP112Pay: the second one stands in parentheses, if its text begins with a -.
func TestP112Pay(t *testing.T) {
	a, b := nam("a"), nam("b")
	neg := of(syntax.Neg, a)
	for _, x := range []struct {
		first, second syntax.Expr
		want          string
	}{
		{neg, b, "pay - a b\n"}, {b, neg, "pay b ( - a )\n"}, {neg, neg, "pay - a ( - a )\n"},
		{a, of(syntax.Sub, of(syntax.Mul, neg, a), b), "pay a ( - a * a - b )\n"}, {a, of(syntax.Or, neg, b), "pay a ( - a or b )\n"},
		{a, of(syntax.Sub, a, neg), "pay a a - - a\n"}, {a, of(syntax.Not, neg), "pay a not - a\n"}, {a, index("x", neg), "pay a x [ - a ]\n"},
		{a, of(syntax.Mul, of(syntax.Add, neg, b), b), "pay a ( - a + b ) * b\n"}, {of(syntax.Sub, num(0), num(1)), num(2), "pay 0 - 1 2\n"},
	} {
		wantBlock(t, []syntax.Stmt{{Kind: syntax.Pay, E: []syntax.Expr{x.first, x.second}}}, 0, x.want)
	}
	deep := a
	for range 15 {
		deep = of(syntax.Neg, deep)
	}
	wantBlock(t, []syntax.Stmt{{Kind: syntax.Pay, E: []syntax.Expr{deep, a}}}, 0, "pay "+strings.Repeat("- ", 15)+"a a\n")
	wantBlock(t, []syntax.Stmt{{Kind: syntax.Pay, E: []syntax.Expr{a, deep.L[0]}}}, 0, "pay a ( "+strings.Repeat("- ", 14)+"a )\n")
	wantNoBlock(t, []syntax.Stmt{{Kind: syntax.Pay, E: []syntax.Expr{a, deep}}}, 0, api.ErrArg)
}

// TestP112Wrong: programs without a text.
func TestP112Wrong(t *testing.T) {
	a := nam("a")
	bads := []string{"", "if", "1", "a b", "a ", "g # x", "g\n", strings.Repeat("n", 31), "g seats 2 stake 1 1 start end turn end play end silent s end pay end"}
	for what, change := range map[string]func(p *syntax.Program){
		"seats":          func(p *syntax.Program) { p.Seats = -1 },
		"many seats":     func(p *syntax.Program) { p.Seats = 2147483648 },
		"no stakes":      func(p *syntax.Program) { p.Stakes = nil },
		"a stake":        func(p *syntax.Program) { p.Stakes[1] = -1 },
		"a great stake":  func(p *syntax.Program) { p.Stakes[0] = 2147483648 },
		"a size":         func(p *syntax.Program) { p.Vars = []syntax.Var{{Name: "a", Size: -1}} },
		"a great size":   func(p *syntax.Program) { p.Vars = []syntax.Var{{Name: "a", Size: 2147483648}} },
		"low":            func(p *syntax.Program) { p.Vars = []syntax.Var{{Name: "a", Low: -2147483648}} },
		"high":           func(p *syntax.Program) { p.Vars = []syntax.Var{{Name: "a", High: 2147483648}} },
		"the least":      func(p *syntax.Program) { p.Vars = []syntax.Var{{Name: "a", Low: math.MinInt}} },
		"a parameter":    func(p *syntax.Program) { p.Params = []syntax.Var{{Name: "a", Size: 1}} },
		"its size":       func(p *syntax.Program) { p.Params = []syntax.Var{{Name: "a"}, {Name: "b", Size: -1}} },
		"its low":        func(p *syntax.Program) { p.Params = []syntax.Var{{Name: "a", Low: -2147483648}} },
		"sides":          func(p *syntax.Program) { p.Play = []syntax.Stmt{{Kind: syntax.Roll, Name: "a", Low: -1}} },
		"many sides":     func(p *syntax.Program) { p.Play = []syntax.Stmt{{Kind: syntax.Roll, Name: "a", Low: 2147483648}} },
		"kind -1":        func(p *syntax.Program) { p.Turn = []syntax.Stmt{{Kind: -1}} },
		"kind 10":        func(p *syntax.Program) { p.Quiet = []syntax.Stmt{{Kind: 10}} },
		"a great kind":   func(p *syntax.Program) { p.Pays = []syntax.Stmt{{Kind: math.MaxInt}} },
		"the least kind": func(p *syntax.Program) { p.Pays = []syntax.Stmt{{Kind: math.MinInt}} },
		"an expression":  func(p *syntax.Program) { p.Pays = []syntax.Stmt{{Kind: syntax.Rest, E: []syntax.Expr{num(-1)}}} },
		"an operation":   func(p *syntax.Program) { p.Pays = []syntax.Stmt{{Kind: syntax.Rest, E: []syntax.Expr{of(18)}}} },
		"a second":       func(p *syntax.Program) { p.Pays = []syntax.Stmt{{Kind: syntax.Pay, E: []syntax.Expr{a, num(-1)}}} },
		"Low":            func(p *syntax.Program) { p.Turn = []syntax.Stmt{{Kind: syntax.Over, Low: 1}} },
		"High":           func(p *syntax.Program) { p.Turn = []syntax.Stmt{{Kind: syntax.Roll, Name: "a", High: 1}} },
		"a name":         func(p *syntax.Program) { p.Turn = []syntax.Stmt{{Kind: syntax.Over, Name: "a"}} },
		"statements":     func(p *syntax.Program) { p.Turn = []syntax.Stmt{{Kind: syntax.Over, L: make([]syntax.Stmt, 1)}} },
		"an else":        func(p *syntax.Program) { p.Turn = []syntax.Stmt{{Kind: syntax.Over, Else: make([]syntax.Stmt, 1)}} },
		"a for's else": func(p *syntax.Program) {
			p.Turn = []syntax.Stmt{{Kind: syntax.For, Name: "i", Else: []syntax.Stmt{{Kind: syntax.Over}}}}
		},
		"a for's from":    func(p *syntax.Program) { p.Turn = []syntax.Stmt{{Kind: syntax.For, Name: "i", Low: -2147483648}} },
		"a for's to":      func(p *syntax.Program) { p.Turn = []syntax.Stmt{{Kind: syntax.For, Name: "i", High: 2147483648}} },
		"an if's numbers": func(p *syntax.Program) { p.Turn = []syntax.Stmt{{Kind: syntax.If, E: []syntax.Expr{a}, Low: 1}} },
	} {
		p := small()
		change(&p)
		wantNoPrint(t, what, p)
	}
	wantNoPrint(t, "nothing", syntax.Program{})
	for _, bad := range bads {
		for i, change := range []func(p *syntax.Program){
			func(p *syntax.Program) { p.Name = bad },
			func(p *syntax.Program) { p.Silent = bad },
			func(p *syntax.Program) { p.Vars = []syntax.Var{{Name: bad}} },
			func(p *syntax.Program) { p.Params = []syntax.Var{{Name: bad}} },
			func(p *syntax.Program) {
				p.Start = []syntax.Stmt{{Kind: syntax.Assign, Name: bad, E: []syntax.Expr{a}}}
			},
			func(p *syntax.Program) { p.Turn = []syntax.Stmt{{Kind: syntax.Put, Name: bad, E: []syntax.Expr{a, a}}} },
			func(p *syntax.Program) { p.Play = []syntax.Stmt{{Kind: syntax.Roll, Name: bad}} },
			func(p *syntax.Program) { p.Quiet = []syntax.Stmt{{Kind: syntax.For, Name: bad}} },
			func(p *syntax.Program) { p.Pays = []syntax.Stmt{{Kind: syntax.Rest, E: []syntax.Expr{nam(bad)}}} },
		} {
			p := small()
			change(&p)
			wantNoPrint(t, "a name "+string(rune('0'+i))+" "+bad, p)
		}
	}
}

// TestP112Limits: what stands at a limit.
func TestP112Limits(t *testing.T) {
	p := small()
	p.Seats, p.Stakes = 2147483647, []int{2147483647, 0}
	p.Vars = []syntax.Var{{Name: "a", Size: 2147483647, Low: -2147483647, High: 2147483647}}
	wantPrint(t, p, strings.Replace(smallText, "2\nstake 1 1\n", "2147483647\nstake 2147483647 0\nvar a [ 2147483647 ] -2147483647 2147483647\n", 1))
	nested := []syntax.Stmt{{Kind: syntax.Over}}
	for n := 1; n <= 16; n++ {
		p = small()
		p.Turn = nested
		s, err := print.Print(p)
		if err != api.OK || strings.Count(s, strings.Repeat("  ", n)+"over\n") != 1 {
			t.Errorf("%d: %q, %s", n, s, err.Word())
		}
		if n%2 == 0 {
			nested = []syntax.Stmt{{Kind: syntax.For, Name: "i", L: nested}}
		} else {
			nested = []syntax.Stmt{{Kind: syntax.If, E: []syntax.Expr{num(1)}, Else: nested}}
		}
	}
	p.Turn = nested
	wantNoPrint(t, "within sixteen others", p)
}

// wide gives statements of which the text of small, with them at its Start, has so many bytes.
func wide(size int) []syntax.Stmt {
	size -= len(smallText)
	l := make([]syntax.Stmt, 0, size/7)
	for ; size >= 2*7+7; size -= 7 { // "  over" and a line feed
		l = append(l, syntax.Stmt{Kind: syntax.Over})
	}
	size -= len("  x = 1\n")
	return append(l, syntax.Stmt{Kind: syntax.Assign, Name: strings.Repeat("x", 1+size), E: []syntax.Expr{num(1)}})
}

// TestP112Long: a text may be as long as one that is read, and no longer.
func TestP112Long(t *testing.T) {
	for size := mostText - 8; size <= mostText+8; size++ {
		p := small()
		p.Start = wide(size)
		s, err := print.Print(p)
		if size > mostText && (s != "" || err != api.ErrArg) || size <= mostText && (len(s) != size || err != api.OK) {
			t.Errorf("%d bytes: %d, %s", size, len(s), err.Word())
		}
	}
}

// TestP113Deep: how deep statements may stand.
func TestP113Deep(t *testing.T) {
	over := []syntax.Stmt{{Kind: syntax.Over}}
	wrong := []syntax.Stmt{{Kind: -1}}
	for deep := 0; deep <= 16; deep++ {
		ahead := strings.Repeat("  ", deep)
		wantBlock(t, over, deep, ahead+"over\n")
		wantBlock(t, nil, deep, "")
		wantBlock(t, []syntax.Stmt{}, deep, "")
		wantBlock(t, []syntax.Stmt{{Kind: syntax.For, Name: "i", L: over}, {Kind: syntax.Rest, E: []syntax.Expr{num(1)}}}, deep, ahead+"for i 0 0 do\n"+ahead+"  over\n"+ahead+"end\n"+ahead+"rest 1\n")
		wantNoBlock(t, wrong, deep, api.ErrArg)
		wantNoBlock(t, []syntax.Stmt{over[0], wrong[0]}, deep, api.ErrArg)
	}
	for _, deep := range []int{-1, 17, 18, math.MinInt, math.MaxInt} {
		for _, l := range [][]syntax.Stmt{nil, over, wrong} {
			wantNoBlock(t, l, deep, api.ErrRange)
		}
	}
}

// TestP113Program: statements have lines if they have them as a program's Start.
func TestP113Program(t *testing.T) {
	p, _, _ := syntax.Parse(all)
	for _, l := range [][]syntax.Stmt{p.Start, p.Turn, p.Play, p.Quiet, p.Pays, nil} {
		g := small()
		g.Start = l
		whole, err := print.Print(g)
		if err != api.OK {
			t.Fatal(err.Word())
		}
		lines := strings.TrimSuffix(strings.TrimPrefix(whole, "game g\nseats 2\nstake 1 1\nstart\n"), "end\nturn\nend\nplay\nend\nsilent s\nend\npay\nend\n")
		wantBlock(t, l, 1, lines)
		for deep := range 17 {
			var want strings.Builder
			for line := range strings.Lines(lines) {
				want.WriteString(strings.Repeat("  ", deep) + line[2:])
			}
			wantBlock(t, l, deep, want.String())
		}
	}
	nested := []syntax.Stmt{{Kind: syntax.Over}}
	for range 15 {
		nested = []syntax.Stmt{{Kind: syntax.For, Name: "i", L: nested}}
	}
	if s, err := print.Block(nested, 16); err != api.OK || !strings.Contains(s, "\n"+strings.Repeat("  ", 31)+"over\n") {
		t.Errorf("%q, %s", s, err.Word())
	}
	wantNoBlock(t, []syntax.Stmt{{Kind: syntax.For, Name: "i", L: nested}}, 0, api.ErrArg)
	for size := mostText - 1; size <= mostText+1; size++ {
		l := wide(size)
		for _, deep := range []int{0, 1, 16} {
			want := size - len(smallText) + 2*(deep-1)*len(l)
			if s, err := print.Block(l, deep); size > mostText && (s != "" || err != api.ErrArg) || size <= mostText && (len(s) != want || err != api.OK) {
				t.Errorf("%d bytes, %d deep: %d, want %d, %s", size, deep, len(s), want, err.Word())
			}
		}
	}
}
