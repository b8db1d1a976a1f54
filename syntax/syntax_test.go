package syntax_test

import (
	"fmt"
	"strings"
	"testing"

	"baize/api"
	"baize/syntax"
)

const most = 65536

func num(n int) syntax.Expr {
	return syntax.Expr{Op: syntax.Number, N: n}
}

func nam(s string) syntax.Expr {
	return syntax.Expr{Op: syntax.Name, Name: s}
}

func index(s string, at syntax.Expr) syntax.Expr {
	return syntax.Expr{Op: syntax.Index, Name: s, L: []syntax.Expr{at}}
}

func of(op int, l ...syntax.Expr) syntax.Expr {
	return syntax.Expr{Op: op, L: l}
}

// told is a tree with all its fields, a list of nothing as no list.
func told(tree any) string {
	return fmt.Sprintf("%+v", tree)
}

// wantProgram looks whether a text is that program.
func wantProgram(t *testing.T, s string, want syntax.Program) {
	t.Helper()
	p, at, err := syntax.Parse(s)
	if told(p) != told(want) || at != (syntax.Place{}) || err != api.OK {
		t.Errorf("%.200q: %v, %s\n%+v\nwant\n%+v", s, at, err.Word(), p, want)
	}
}

// wantNone looks whether a text is no program, by what stands there.
func wantNone(t *testing.T, s string, line, col int, want api.Errno) {
	t.Helper()
	p, at, err := syntax.Parse(s)
	if told(p) != told(syntax.Program{}) || at != (syntax.Place{Line: line, Col: col}) || err != want {
		t.Errorf("%.200q: %.60s, %v, %s; want %d %d, %s", s, told(p), at, err.Word(), line, col, want.Word())
	}
}

// wantExpr looks whether a text is that expression.
func wantExpr(t *testing.T, s string, want syntax.Expr) {
	t.Helper()
	e, at, err := syntax.Expression(s)
	if told(e) != told(want) || at != (syntax.Place{}) || err != api.OK {
		t.Errorf("%.200q: %v, %s\n%+v\nwant\n%+v", s, at, err.Word(), e, want)
	}
}

// wantNoExpr looks whether a text is no expression, by what stands in that column of its first line.
func wantNoExpr(t *testing.T, s string, col int, want api.Errno) {
	t.Helper()
	e, at, err := syntax.Expression(s)
	if told(e) != told(syntax.Expr{}) || at != (syntax.Place{Line: 1, Col: col}) || err != want {
		t.Errorf("%.200q: %.60s, %v, %s; want %d, %s", s, told(e), at, err.Word(), col, want.Word())
	}
}

// TestExample: the chapter's.
func TestExample(t *testing.T) {
	wantExpr(t, "1 - 2 - 3 * x", of(syntax.Sub, of(syntax.Sub, num(1), num(2)), of(syntax.Mul, num(3), nam("x"))))
	wantExpr(t, "- 2 + 1", of(syntax.Add, of(syntax.Neg, num(2)), num(1)))
	wantNoExpr(t, "a = b = c", 7, api.ErrForm)
	wantExpr(t, "not a and b", of(syntax.And, of(syntax.Not, nam("a")), nam("b")))
}

// TestP101Numbers: the operations' and the kinds' numbers.
func TestP101Numbers(t *testing.T) {
	for i, n := range []int{syntax.Number, syntax.Name, syntax.Index, syntax.Neg, syntax.Not, syntax.Mul, syntax.Div, syntax.Rem, syntax.Add, syntax.Sub, syntax.Eq, syntax.Ne, syntax.Lt, syntax.Le, syntax.Gt, syntax.Ge, syntax.And, syntax.Or} {
		if n != i {
			t.Errorf("operation %d is %d", i, n)
		}
	}
	for i, n := range []int{syntax.Assign, syntax.Put, syntax.If, syntax.For, syntax.Refuse, syntax.Roll, syntax.Seat, syntax.Over, syntax.Pay, syntax.Rest} {
		if n != i {
			t.Errorf("kind %d is %d", i, n)
		}
	}
}

// all is a program with each thing that there is.
const all = `# all of it
game g
seats 3
stake 1 20 2147483647
var a 0 7
var b - 5 -1
var c [ 9 ] -2 2147483647
var d[0]0 0
start
  a = 1
  c [ 1 + a ] = - 2
  if a then end
  if a = 1 then
    b = 2
    c [ 0 ] = c [ 1 ]
  else
    for i -1 3 do
      a = i
      for j - 2 - 1 do end
    end
    if not a then else over end
    if b then seat 1 else end
  end
end
turn
  seat a b = 1
  over
  seat c [ a ] - 1
end
play x 0 - 1, y_2 -3 5
  refuse
  roll a 6
  x = x or y_2 and x != y_2
end
silent who
  who = 0
  rest who
end
pay
  pay 0 - 1 2
  pay a b
  pay c [ 1 ] ( a )
  pay ( a ) not b
  pay 1 ( - 1 )
  rest 0
end
`

// allTree is its tree.
func allTree() syntax.Program {
	return syntax.Program{
		Name:   "g",
		Seats:  3,
		Stakes: []int{1, 20, 2147483647},
		Vars:   []syntax.Var{{Name: "a", High: 7}, {Name: "b", Low: -5, High: -1}, {Name: "c", Size: 9, Low: -2, High: 2147483647}, {Name: "d"}},
		Start: []syntax.Stmt{
			{Kind: syntax.Assign, Name: "a", E: []syntax.Expr{num(1)}},
			{Kind: syntax.Put, Name: "c", E: []syntax.Expr{of(syntax.Add, num(1), nam("a")), of(syntax.Neg, num(2))}},
			{Kind: syntax.If, E: []syntax.Expr{nam("a")}},
			{
				Kind: syntax.If,
				E:    []syntax.Expr{of(syntax.Eq, nam("a"), num(1))},
				L: []syntax.Stmt{
					{Kind: syntax.Assign, Name: "b", E: []syntax.Expr{num(2)}},
					{Kind: syntax.Put, Name: "c", E: []syntax.Expr{num(0), index("c", num(1))}},
				},
				Else: []syntax.Stmt{
					{Kind: syntax.For, Name: "i", Low: -1, High: 3, L: []syntax.Stmt{
						{Kind: syntax.Assign, Name: "a", E: []syntax.Expr{nam("i")}},
						{Kind: syntax.For, Name: "j", Low: -2, High: -1},
					}},
					{Kind: syntax.If, E: []syntax.Expr{of(syntax.Not, nam("a"))}, Else: []syntax.Stmt{{Kind: syntax.Over}}},
					{Kind: syntax.If, E: []syntax.Expr{nam("b")}, L: []syntax.Stmt{{Kind: syntax.Seat, E: []syntax.Expr{num(1)}}}},
				},
			},
		},
		Turn: []syntax.Stmt{
			{Kind: syntax.Seat, E: []syntax.Expr{nam("a")}},
			{Kind: syntax.Assign, Name: "b", E: []syntax.Expr{num(1)}},
			{Kind: syntax.Over},
			{Kind: syntax.Seat, E: []syntax.Expr{of(syntax.Sub, index("c", nam("a")), num(1))}},
		},
		Params: []syntax.Var{{Name: "x", High: -1}, {Name: "y_2", Low: -3, High: 5}},
		Play: []syntax.Stmt{
			{Kind: syntax.Refuse},
			{Kind: syntax.Roll, Name: "a", Low: 6},
			{Kind: syntax.Assign, Name: "x", E: []syntax.Expr{of(syntax.Or, nam("x"), of(syntax.And, nam("y_2"), of(syntax.Ne, nam("x"), nam("y_2"))))}},
		},
		Silent: "who",
		Quiet: []syntax.Stmt{
			{Kind: syntax.Assign, Name: "who", E: []syntax.Expr{num(0)}},
			{Kind: syntax.Rest, E: []syntax.Expr{nam("who")}},
		},
		Pays: []syntax.Stmt{
			{Kind: syntax.Pay, E: []syntax.Expr{of(syntax.Sub, num(0), num(1)), num(2)}},
			{Kind: syntax.Pay, E: []syntax.Expr{nam("a"), nam("b")}},
			{Kind: syntax.Pay, E: []syntax.Expr{index("c", num(1)), nam("a")}},
			{Kind: syntax.Pay, E: []syntax.Expr{nam("a"), of(syntax.Not, nam("b"))}},
			{Kind: syntax.Pay, E: []syntax.Expr{num(1), of(syntax.Neg, num(1))}},
			{Kind: syntax.Rest, E: []syntax.Expr{num(0)}},
		},
	}
}

// least is the shortest program, with something in its parts.
func least(start, turn, play, silent, pay string) string {
	return "game g seats 2 stake 1 start " + start + " end turn " + turn + " end play " + play + " end silent s " + silent + " end pay " + pay + " end"
}

// inStart is the shortest one with that as its start; it stands in column 30.
func inStart(start string) string {
	return least(start, "", "", "", "")
}

// TestP101Tree: trees, field by field.
func TestP101Tree(t *testing.T) {
	wantProgram(t, all, allTree())
	empty := syntax.Program{Name: "g", Seats: 2, Stakes: []int{1}, Silent: "s"}
	wantProgram(t, inStart(""), empty)
	wantProgram(t, "#\n\n"+strings.ReplaceAll(inStart(""), " ", "\n\t")+"#", empty)
	for _, x := range []struct {
		play   string
		params []syntax.Var
		want   []syntax.Stmt
	}{
		{"x 1 2", []syntax.Var{{Name: "x", Low: 1, High: 2}}, nil},
		{"x -1-2", []syntax.Var{{Name: "x", Low: -1, High: -2}}, nil},
		{"x 0 1 , y 2 3 , z - 4 5 y = 6", []syntax.Var{{Name: "x", High: 1}, {Name: "y", Low: 2, High: 3}, {Name: "z", Low: -4, High: 5}}, []syntax.Stmt{{Name: "y", E: []syntax.Expr{num(6)}}}},
		{"x 0 1 over", []syntax.Var{{Name: "x", High: 1}}, []syntax.Stmt{{Kind: syntax.Over}}},
		{"x = 1", nil, []syntax.Stmt{{Name: "x", E: []syntax.Expr{num(1)}}}},
		{"x = - 1", nil, []syntax.Stmt{{Name: "x", E: []syntax.Expr{of(syntax.Neg, num(1))}}}},
		{"x [ 1 ] = 2", nil, []syntax.Stmt{{Kind: syntax.Put, Name: "x", E: []syntax.Expr{num(1), num(2)}}}},
	} {
		want := empty
		want.Params, want.Play = x.params, x.want
		wantProgram(t, least("", "", x.play, "", ""), want)
	}
}

// TestP101Signs: numbers with a sign, and those without.
func TestP101Signs(t *testing.T) {
	for _, x := range []struct {
		text string
		n    int
	}{{"0", 0}, {"- 0", 0}, {"2147483647", 2147483647}, {"-2147483647", -2147483647}, {"-\n#x\n7", -7}} {
		want := syntax.Program{Name: "g", Seats: 1, Stakes: []int{0}, Silent: "s"}
		want.Vars = []syntax.Var{{Name: "v", Low: x.n, High: x.n}, {Name: "w", Size: 3, Low: x.n, High: x.n}}
		want.Params = []syntax.Var{{Name: "p", Low: x.n, High: x.n}}
		want.Quiet = []syntax.Stmt{{Kind: syntax.For, Name: "i", Low: x.n, High: x.n}}
		n := " " + x.text + " " + x.text + " "
		wantProgram(t, "game g seats 1 stake 0 var v"+n+"var w[3]"+n+"start end turn end play p"+n+"end silent s for i"+n+"do end end pay end", want)
	}
	for _, s := range []string{"seats -2 stake 1", "seats 2 stake -1", "seats 2 stake 1 -1"} {
		wantNone(t, "game g "+s, 1, 8+strings.Index(s, "-"), api.ErrForm)
	}
	wantNone(t, "game g seats 2 stake 1 var x [ -1 ] 0 1", 1, 32, api.ErrForm)
	wantNone(t, inStart("roll x - 6"), 1, 37, api.ErrForm)
}

// TestP101First: layer 9's errors come first, wherever they stand.
func TestP101First(t *testing.T) {
	wantNone(t, "what is 07", 1, 9, api.ErrForm)
	wantNone(t, all+"$", 47, 1, api.ErrForm)
	wantNone(t, "\n game 2147483648 $", 2, 7, api.ErrRange)
	wantNone(t, inStart("x = "+strings.Repeat("(", 40)+strings.Repeat("y", 31)), 1, 74, api.ErrRange)
	wantNone(t, strings.Repeat(" ", most+1), 0, 0, api.ErrRange)
	wantNone(t, all+strings.Repeat(" ", most), 0, 0, api.ErrRange)
	wantNone(t, strings.Repeat("$", most+1), 0, 0, api.ErrRange)
	wantNone(t, strings.Repeat(" ", most), 1, most+1, api.ErrShort)
	wantProgram(t, all+strings.Repeat(" ", most-len(all)), allTree())
	wantNoExpr(t, ") 1x", 3, api.ErrForm)
	wantNoExpr(t, "a 99999999999", 3, api.ErrRange)
	if e, at, err := syntax.Expression("1" + strings.Repeat(" ", most)); told(e) != told(syntax.Expr{}) || at != (syntax.Place{}) || err != api.ErrRange {
		t.Error(e, at, err)
	}
}

// TestP101Wrong: where no program can go on.
func TestP101Wrong(t *testing.T) {
	wantNone(t, "", 1, 1, api.ErrShort)
	wantNone(t, "# nothing\n\n", 3, 1, api.ErrShort)
	wantNone(t, "game", 1, 5, api.ErrShort)
	wantNone(t, "game\n g\n", 3, 1, api.ErrShort)
	wantNone(t, "game end", 1, 6, api.ErrForm)
	wantNone(t, "game 1", 1, 6, api.ErrForm)
	wantNone(t, "seats 2", 1, 1, api.ErrForm)
	wantNone(t, "game g h", 1, 8, api.ErrForm)
	wantNone(t, "game g seats two", 1, 14, api.ErrForm)
	wantNone(t, "game g seats 2 stake start", 1, 22, api.ErrForm)
	wantNone(t, "game g seats 2 stake 1 x", 1, 24, api.ErrForm)
	wantNone(t, "game g seats 2 stake 1 , 2", 1, 24, api.ErrForm)
	wantNone(t, "game g seats 2 stake 1 var x", 1, 29, api.ErrShort)
	wantNone(t, "game g seats 2 stake 1 var x 1 var", 1, 32, api.ErrForm)
	wantNone(t, "game g seats 2 stake 1 var x 1 - -1", 1, 34, api.ErrForm)
	wantNone(t, "game g seats 2 stake 1 var x [ y", 1, 32, api.ErrForm)
	wantNone(t, "game g seats 2 stake 1 var x [ 1 2", 1, 34, api.ErrForm)
	wantNone(t, "game g seats 2 stake 1 var x 0 1 2", 1, 34, api.ErrForm)
	wantNone(t, inStart("")+" end", 1, len(inStart(""))+2, api.ErrForm)
	wantNone(t, inStart("")+"\ngame g", 2, 1, api.ErrForm)
	wantNone(t, strings.TrimSuffix(inStart(""), "end")+"#", 1, len(inStart(""))-1, api.ErrShort)
	wantNone(t, inStart("x"), 1, 32, api.ErrForm)
	wantNone(t, inStart("x == 1"), 1, 33, api.ErrForm)
	wantNone(t, inStart("x = y = z = 1"), 1, 40, api.ErrForm)
	wantNone(t, inStart("x = 1 2"), 1, 36, api.ErrForm)
	wantNone(t, inStart("x [ 1 = 2"), 1, 40, api.ErrForm)
	wantNone(t, inStart("x [ ] = 2"), 1, 34, api.ErrForm)
	wantNone(t, inStart("x ( 1 ) = 2"), 1, 32, api.ErrForm)
	wantNone(t, inStart("1 = x"), 1, 30, api.ErrForm)
	wantNone(t, inStart("if a = b over end"), 1, 39, api.ErrForm)
	wantNone(t, inStart("if a then over"), 1, 49, api.ErrForm)
	wantNone(t, inStart("if a then else else end"), 1, 45, api.ErrForm)
	wantNone(t, inStart("else"), 1, 30, api.ErrForm)
	wantNone(t, inStart("for i 0 i do end"), 1, 38, api.ErrForm)
	wantNone(t, inStart("for i 0 1 then end"), 1, 40, api.ErrForm)
	wantNone(t, inStart("for i 0 1 do else end"), 1, 43, api.ErrForm)
	wantNone(t, inStart("roll 6"), 1, 35, api.ErrForm)
	wantNone(t, inStart("roll d d"), 1, 37, api.ErrForm)
	wantNone(t, inStart("pay 0 - 1 over"), 1, 40, api.ErrForm)
	wantNone(t, inStart("pay 0, 1"), 1, 35, api.ErrForm)
	wantNone(t, inStart("rest"), 1, 35, api.ErrForm)
	wantNone(t, inStart("var x 0 1"), 1, 30, api.ErrForm)
	wantNone(t, inStart("play"), 1, 30, api.ErrForm)
	play := func(s string, col int) {
		t.Helper()
		wantNone(t, least("", "", s, "", ""), 1, len("game g seats 2 stake 1 start  end turn  end play ")+col, api.ErrForm)
	}
	play("x y", 3)
	play("x", 3)
	play("x 1", 5)
	play("x - y", 5)
	play("x 0 1,", 8)
	play("x 0 1, over", 8)
	play("x 0 1, y = 1", 10)
	play("x 0 1 y 2 3", 9)
	play(", x 0 1", 1)
	play("[ 1 ] = 2", 1)
	wantNone(t, "game g seats 2 stake 1 start end turn end play x", 1, 49, api.ErrShort)
	wantNone(t, "game g seats 2 stake 1 start end turn end play end silent end", 1, 59, api.ErrForm)
}

// TestP101DeepExprs: an expression stands within fifteen others, but not within sixteen.
func TestP101DeepExprs(t *testing.T) {
	again := strings.Repeat
	for _, x := range []struct{ ahead, behind string }{{"(", ")"}, {"-", ""}, {"not ", ""}, {"a[", "]"}, {"1+(", ")"}, {"a=b or c[", "]"}} {
		inner := again(x.ahead, 15) + "x" + again(x.behind, 15)
		for _, s := range []string{inner, inner + "+" + inner + " or " + inner, "a [1] * b+" + inner} {
			if _, at, err := syntax.Expression(s); err != api.OK {
				t.Errorf("%s: %v, %s", s, at, err.Word())
			}
		}
		for _, s := range []string{"x = " + inner, "x [ " + inner + " ] = " + inner, "if " + inner + " then x = " + inner + " else x = " + inner + " end", "pay a " + again("(", 15) + "b" + again(")", 15)} {
			if _, at, err := syntax.Parse(inStart(s)); err != api.OK {
				t.Errorf("%s: %v, %s", s, at, err.Word())
			}
		}
		deep := again(x.ahead, 16)
		for _, s := range []string{"x", "7", "(", "-", "not", "x[1]", "((((", "x = = x", "- )", again(x.ahead, 84)} {
			wantNoExpr(t, deep+s, 1+len(deep), api.ErrDeep)
			wantNone(t, inStart("x = "+deep+s), 1, 34+len(deep), api.ErrDeep)
			wantNone(t, inStart("x [ "+deep+s), 1, 34+len(deep), api.ErrDeep)
			wantNone(t, inStart("if "+deep+s), 1, 33+len(deep), api.ErrDeep)
		}
		for _, s := range []string{")", "]", "=", "+ 1", "then", "or", "game"} {
			wantNoExpr(t, deep+s, 1+len(deep), api.ErrForm)
		}
		wantNoExpr(t, deep, 1+len(deep), api.ErrShort)
	}
	wantNoExpr(t, again("(-not a[", 4)+"x", 33, api.ErrDeep)
	wantNoExpr(t, "= "+again("(", 20), 1, api.ErrForm)
	wantNoExpr(t, again("(", 20)+"$", 21, api.ErrForm)
}

// TestP101DeepJoined: what is joined is no deeper.
func TestP101DeepJoined(t *testing.T) {
	for _, mark := range []string{"+", "-", "*", "/", "%", " and ", " or ", "*-", "- -", " and not ", "+(a)*"} {
		if _, at, err := syntax.Expression(strings.Repeat("a"+mark, 5000) + "a"); err != api.OK {
			t.Errorf("%s: %v, %s", mark, at, err.Word())
		}
	}
	if e, _, err := syntax.Expression(strings.Repeat("1+", 32767) + "1"); err != api.OK || syntax.Deep(e) != 32768 {
		t.Error(syntax.Deep(e), err)
	}
}

// TestP101DeepStatements: a statement stands within fifteen others, but not within sixteen; its expressions are not within any.
func TestP101DeepStatements(t *testing.T) {
	again := strings.Repeat
	for _, x := range []struct{ ahead, behind string }{{"if a then ", "end "}, {"for i 0 1 do ", "end "}, {"if a then else ", "end "}, {"over if a then ", "end over "}} {
		inner := "x [ " + again("(", 15) + "1" + again(")", 15) + "] = " + again("-", 15) + "1 "
		for _, s := range []string{again(x.ahead, 16) + again(x.behind, 16), again(x.ahead, 15) + inner + inner + again(x.behind, 15)} {
			if _, at, err := syntax.Parse(inStart(s + s)); err != api.OK {
				t.Errorf("%s: %v, %s", s, at, err.Word())
			}
		}
		deep := again(x.ahead, 16)
		for _, s := range []string{"x = 1", "x [ 1 ] = 2", "x", "if", "for", "refuse", "roll", "seat", "over", "pay", "rest = =", again(x.ahead, 84)} {
			wantNone(t, inStart(deep+s), 1, 30+len(deep), api.ErrDeep)
		}
		for _, s := range []string{"1", "turn", "(", ",", "var x 0 1", "and"} {
			wantNone(t, inStart(deep+s), 1, 30+len(deep), api.ErrForm)
		}
		wantNone(t, "game g seats 2 stake 1 start "+deep, 1, 30+len(deep), api.ErrShort)
		wantNone(t, inStart(again(x.ahead, 15)+"x = "+again("(", 16)+"y"), 1, 30+15*len(x.ahead)+4+16, api.ErrDeep)
	}
	wantNone(t, inStart(again("if a then for i 0 1 do ", 8)+"over"), 1, 30+8*23, api.ErrDeep)
	wantNone(t, inStart("over = "+again("if a then ", 20)), 1, 35, api.ErrForm)
	if _, at, err := syntax.Parse(inStart(again("if a then else over end ", 100) + again("for i 0 1 do over end ", 100))); err != api.OK {
		t.Error(at, err)
	}
}

// TestP102: expressions, from loose to tight.
func TestP102(t *testing.T) {
	a, b, c := nam("a"), nam("b"), nam("c")
	marks := [][]struct {
		text string
		op   int
	}{
		{{"or", syntax.Or}},
		{{"and", syntax.And}},
		{{"=", syntax.Eq}, {"!=", syntax.Ne}, {"<", syntax.Lt}, {"<=", syntax.Le}, {">", syntax.Gt}, {">=", syntax.Ge}},
		{{"+", syntax.Add}, {"-", syntax.Sub}},
		{{"*", syntax.Mul}, {"/", syntax.Div}, {"%", syntax.Rem}},
	}
	for i, looser := range marks {
		for _, x := range looser {
			wantExpr(t, "a "+x.text+" b", of(x.op, a, b))
			wantExpr(t, "- a "+x.text+" not b", of(x.op, of(syntax.Neg, a), of(syntax.Not, b)))
			wantExpr(t, "a [ b ] "+x.text+" ( c )", of(x.op, index("a", b), c))
			for j, tighter := range marks {
				for _, y := range tighter {
					first, then := "a "+x.text+" b "+y.text+" c", "a "+y.text+" b "+x.text+" c"
					switch {
					case i < j:
						wantExpr(t, first, of(x.op, a, of(y.op, b, c)))
						wantExpr(t, then, of(x.op, of(y.op, a, b), c))
					case i > j:
					case i == 2:
						wantNoExpr(t, first, 6+len(x.text), api.ErrForm)
						wantExpr(t, "a "+x.text+" ( b "+y.text+" c )", of(x.op, a, of(y.op, b, c)))
						wantExpr(t, "( a "+x.text+" b ) "+y.text+" c", of(y.op, of(x.op, a, b), c))
					default:
						wantExpr(t, first, of(y.op, of(x.op, a, b), c))
						wantExpr(t, "a "+x.text+" ( b "+y.text+" c )", of(x.op, a, of(y.op, b, c)))
					}
				}
			}
		}
	}
	wantExpr(t, "a=b and b=c or c!=a", of(syntax.Or, of(syntax.And, of(syntax.Eq, a, b), of(syntax.Eq, b, c)), of(syntax.Ne, c, a)))
	wantExpr(t, "--a", of(syntax.Neg, of(syntax.Neg, a)))
	wantExpr(t, "not - not a", of(syntax.Not, of(syntax.Neg, of(syntax.Not, a))))
	wantExpr(t, "a--b", of(syntax.Sub, a, of(syntax.Neg, b)))
	wantExpr(t, "-a[b-1]", of(syntax.Neg, index("a", of(syntax.Sub, b, num(1)))))
	wantExpr(t, "not a = b", of(syntax.Eq, of(syntax.Not, a), b))
	wantExpr(t, "a = not b", of(syntax.Eq, a, of(syntax.Not, b)))
	wantExpr(t, "not ( a = b )", of(syntax.Not, of(syntax.Eq, a, b)))
	wantExpr(t, "a[b[c[0]]]", index("a", index("b", index("c", num(0)))))
	wantExpr(t, "a[b or c]", index("a", of(syntax.Or, b, c)))
	wantExpr(t, "\n#x\n2147483647#", num(2147483647))
	wantExpr(t, "0", num(0))
}

// TestP102Wrong: what is no expression.
func TestP102Wrong(t *testing.T) {
	for _, x := range []struct {
		text string
		col  int
		want api.Errno
	}{
		{"", 1, api.ErrShort}, {" ", 2, api.ErrShort}, {"#", 2, api.ErrShort}, {"-", 2, api.ErrShort}, {"not", 4, api.ErrShort}, {"(", 2, api.ErrShort}, {"a[", 3, api.ErrShort}, {"a +", 4, api.ErrShort}, {"a + ", 5, api.ErrShort}, {"(a", 3, api.ErrShort}, {"a[1", 4, api.ErrShort}, {"a or", 5, api.ErrShort}, {"a=", 3, api.ErrShort},
		{"+ a", 1, api.ErrForm}, {"* a", 1, api.ErrForm}, {"()", 2, api.ErrForm}, {"a[]", 3, api.ErrForm}, {"a b", 3, api.ErrForm}, {"1 2", 3, api.ErrForm}, {"a )", 3, api.ErrForm}, {"(a]", 3, api.ErrForm}, {"a[1)", 4, api.ErrForm}, {"a ]", 3, api.ErrForm}, {"1[0]", 2, api.ErrForm}, {"(a)[0]", 4, api.ErrForm}, {"a[0][1]", 5, api.ErrForm}, {"a(0)", 2, api.ErrForm},
		{"a + * b", 5, api.ErrForm}, {"a or or b", 6, api.ErrForm}, {"a not b", 3, api.ErrForm}, {"a and", 6, api.ErrShort}, {"and", 1, api.ErrForm}, {"a != = b", 6, api.ErrForm}, {"a < b > c", 7, api.ErrForm}, {"a = b + c = d", 11, api.ErrForm}, {"a , b", 3, api.ErrForm}, {"game", 1, api.ErrForm}, {"a = end", 5, api.ErrForm}, {"[a]", 1, api.ErrForm}, {"a if b", 3, api.ErrForm}, {"a = = = b", 5, api.ErrForm},
	} {
		wantNoExpr(t, x.text, x.col, x.want)
	}
}
