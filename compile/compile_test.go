package compile_test

import (
	"fmt"
	"math"
	"slices"
	"strings"
	"testing"

	"baize/api"
	"baize/bound"
	"baize/code"
	"baize/compile"
	"baize/machine"
	"baize/sorts"
	"baize/syntax"
)

const (
	least = math.MinInt32
	great = math.MaxInt32
)

// rules are a program's, piece by piece; what isn't told is as little as may be.
type rules struct {
	vars, start, turn, play, quiet, pays string
	seats                                int
}

// text gives the rules as one.
func (r rules) text() string {
	if r.turn == "" {
		r.turn = "over"
	}
	if r.pays == "" {
		r.pays = "rest 0"
	}
	seats := max(r.seats, 2)
	return fmt.Sprint("game g seats ", seats, " stake", strings.Repeat(" 1", seats), " ", r.vars, " start ", r.start, " end turn ", r.turn, " end play ", r.play, " end silent who ", r.quiet, " end pay ", r.pays, " end")
}

// program gives the rules as a tree.
func (r rules) program(t *testing.T) syntax.Program {
	t.Helper()
	p, at, err := syntax.Parse(r.text())
	if err != api.OK {
		t.Fatalf("%s: %v, %s", r.text(), at, err.Word())
	}
	return p
}

// compiled gives a program's code.
func compiled(t *testing.T, p syntax.Program) *compile.Code {
	t.Helper()
	c, err := compile.Compile(p)
	if err != api.OK || c == nil {
		t.Fatalf("%.300v: %s", p, err.Word())
	}
	return c
}

// code gives that of the rules.
func (r rules) code(t *testing.T) *compile.Code {
	t.Helper()
	return compiled(t, r.program(t))
}

// told gives what a part came to, a list that is nil as one that is empty.
func told(o compile.Out) string {
	return fmt.Sprintf("%+v", o)
}

// want looks what a part comes to.
func want(t *testing.T, c *compile.Code, part int, vars, args []int32, want compile.Out) {
	t.Helper()
	if out, err := c.Run(part, vars, args); err != api.OK || told(out) != told(want) {
		t.Errorf("part %d of %v, %v: %s, %s; want %s", part, vars, args, told(out), err.Word(), told(want))
	}
}

// wantNot looks that a part isn't run, and why.
func wantNot(t *testing.T, c *compile.Code, part int, vars, args []int32, want api.Errno) {
	t.Helper()
	if out, err := c.Run(part, vars, args); err != want || told(out) != told(compile.Out{}) {
		t.Errorf("Run of part %d of %v, %v: %s, %s; want %s", part, vars, args, told(out), err.Word(), want.Word())
	}
	if s, err := c.State(part, vars, args); err != want || s.Pc != 0 || len(s.Mem) != 0 || s.Halt != 0 {
		t.Errorf("State of part %d of %v, %v: %v, %s; want %s", part, vars, args, s, err.Word(), want.Word())
	}
}

// vars is what a part comes to that comes to cells.
func vars(l ...int32) compile.Out {
	return compile.Out{Vars: l}
}

// TestExample: the chapter's.
func TestExample(t *testing.T) {
	c := rules{vars: "var x 0 3", start: "x = 7 / 0 + 5", pays: "pay 9 4 rest 1"}.code(t)
	want(t, c, compile.Start, nil, nil, vars(3))
	want(t, c, compile.Pay, []int32{0}, nil, compile.Out{Asks: []int32{4, 0}, Rest: 1})
}

// TestConstants: the parts' numbers, and the greatest amount.
func TestConstants(t *testing.T) {
	if l := [...]int{compile.Start, compile.Turn, compile.Play, compile.Silent, compile.Pay, compile.Parts, compile.MostAsk}; l != [...]int{0, 1, 2, 3, 4, 5, 1073741823} {
		t.Error(l)
	}
}

// wantNoCode looks that a program has none, and why.
func wantNoCode(t *testing.T, what string, p syntax.Program, want api.Errno) {
	t.Helper()
	if c, err := compile.Compile(p); c != nil || err != want {
		t.Errorf("%s: %v, %s; want %s", what, c != nil, err.Word(), want.Word())
	}
}

// TestP161Sorts: what may not be has no code.
func TestP161Sorts(t *testing.T) {
	for s, want := range map[string]api.Errno{
		rules{start: "x = 1"}.text():                                                      api.ErrName,
		rules{vars: "var x 0 1 var x 0 1"}.text():                                         api.ErrTwice,
		rules{vars: "var x 1 0"}.text():                                                   api.ErrRange,
		rules{vars: "var x [ 65 ] 0 1"}.text():                                            api.ErrRange,
		rules{vars: "var x [ 64 ] 0 1 var y 0 1"}.text():                                  api.ErrFull,
		rules{vars: "var x 0 1", start: "x [ 0 ] = 1"}.text():                             api.ErrSort,
		rules{start: "refuse"}.text():                                                     api.ErrState,
		rules{turn: "if 1 then over end"}.text():                                          api.ErrShort,
		rules{pays: "pay 1 1"}.text():                                                     api.ErrShort,
		rules{play: "a 0 512"}.text():                                                     api.ErrFull,
		rules{vars: "var x 0 1", start: strings.Repeat("x = 1 ", 500)}.text():             api.ErrLong,
		rules{start: "for i 0 64 do end"}.text():                                          api.ErrRange,
		strings.Replace(rules{}.text(), "seats 2", "seats 9", 1):                          api.ErrRange,
		strings.Replace(rules{}.text(), "stake 1 1", "stake 1", 1):                        api.ErrForm,
		rules{vars: "var x 0 1", start: "x = " + strings.Repeat("1 + ", 12) + "1"}.text(): api.ErrDeep,
	} {
		p, at, err := syntax.Parse(s)
		if err != api.OK {
			t.Fatalf("%s: %v", s, at)
		}
		if fault := sorts.Check(p); fault.E != want {
			t.Errorf("%s: layer 12 says %v", s, fault)
		}
		wantNoCode(t, s, p, want)
	}
	wantNoCode(t, "nothing", syntax.Program{}, api.ErrName)
}

// TestP161Long: a part has 256 statements and expressions at most.
func TestP161Long(t *testing.T) {
	loops := func(n int) string { return strings.Repeat("for i 1 0 do end ", n) }
	for what, part := range map[string]func(n int) rules{
		"start":  func(n int) rules { return rules{start: loops(n)} },
		"turn":   func(n int) rules { return rules{turn: loops(n-1) + "over"} },
		"play":   func(n int) rules { return rules{play: "a 0 1, b 0 1, c 0 1, d 0 1 " + loops(n)} },
		"silent": func(n int) rules { return rules{quiet: loops(n)} },
		"pay":    func(n int) rules { return rules{pays: loops(n-2) + "rest 0"} },
	} {
		compiled(t, part(255).program(t))
		compiled(t, part(256).program(t))
		wantNoCode(t, what, part(257).program(t), api.ErrLong)
	}
	within := func(n int) rules {
		return rules{vars: "var x 0 1", start: "if 1 + x then x = 1 else for i 1 0 do x = - x end end " + loops(n-11)}
	}
	compiled(t, within(257).program(t))
	wantNoCode(t, "within others", within(258).program(t), api.ErrLong)
	all := rules{start: loops(200), turn: loops(199) + "over", play: loops(200), quiet: loops(198), pays: loops(198) + "rest 0"}
	compiled(t, all.program(t))
}

// loop is a for of so many rounds of nothing, 4 steps each and 3.
func loop(name string, rounds int, within string) string {
	return fmt.Sprint("for ", name, " 1 ", rounds, " do ", within, " end ")
}

// TestP161Fuel: no part has more than 65536 steps, and too many statements count ahead of that.
func TestP161Fuel(t *testing.T) {
	// 8, and 3 and 63 rounds of 4, 3, 64 rounds of 4 and 3 and 3 rounds of 4: 63 * (7 + 64 * 19) is 77049.
	much := loop("i", 63, loop("j", 64, loop("k", 3, "")))
	for what, r := range map[string]rules{
		"start": {start: much}, "turn": {turn: much + "over"}, "play": {play: much}, "silent": {quiet: much}, "pay": {pays: much + "rest 0"},
	} {
		wantNoCode(t, what, r.program(t), api.ErrFuel)
	}
	long := rules{start: much, pays: strings.Repeat("for i 1 0 do end ", 256) + "rest 0"}
	wantNoCode(t, "too long", long.program(t), api.ErrLong)
	for n, want := range map[int]api.Errno{bound.Most - 1: api.OK, bound.Most: api.OK, bound.Most + 1: api.ErrFuel, bound.Most + 2: api.ErrFuel} {
		p := filled(t, n)
		if want != api.OK {
			wantNoCode(t, "filled", p, want)
		} else if c := compiled(t, p); c.Most(compile.Play) != n {
			t.Errorf("%d steps, want %d", c.Most(compile.Play), n)
		}
	}
}

// filled gives rules whose play has just so many steps, by layer 13.
func filled(t *testing.T, steps int) syntax.Program {
	t.Helper()
	p := rules{vars: "var d 0 9", play: loop("i", 64, loop("j", 63, loop("k", 2, "")))}.program(t)
	left := func() int { return steps - 8 - bound.Block(p.Play) }
	for left() >= 300 {
		p.Play = append(p.Play, syntax.Stmt{Kind: syntax.For, Name: "i", High: 63}) // 259
	}
	for left()%3 != 0 {
		p.Play = append(p.Play, syntax.Stmt{Kind: syntax.Roll, Name: "d", Low: 6}) // 4
	}
	for left() > 0 {
		p.Play = append(p.Play, syntax.Stmt{Kind: syntax.For, Name: "i", Low: 1}) // 3
	}
	if left() != 0 || syntax.Size(syntax.Program{Start: p.Play}) > 256 {
		t.Fatal(left())
	}
	return p
}

// one is rules in which a value can be looked at: x is what an expression comes to.
func one(e syntax.Expr) syntax.Program {
	full := func(name string, size int) syntax.Var {
		return syntax.Var{Name: name, Size: size, Low: least, High: great}
	}
	return syntax.Program{Name: "g", Seats: 2, Stakes: []int{1, 1}, Silent: "who",
		Vars: []syntax.Var{full("x", 0), full("a", 0), full("b", 0), full("l", 3), full("m", 1)},
		Turn: []syntax.Stmt{{Kind: syntax.Over}},
		Play: []syntax.Stmt{{Kind: syntax.Assign, Name: "x", E: []syntax.Expr{e}}},
		Pays: []syntax.Stmt{{Kind: syntax.Rest, E: []syntax.Expr{{Op: syntax.Number}}}},
	}
}

// value gives what an expression comes to, of a, b, l and m.
func value(t *testing.T, c *compile.Code, a, b int32) int32 {
	t.Helper()
	cells := []int32{5, a, b, 10, 20, 30, 40}
	out, err := c.Run(compile.Play, cells, nil)
	if err != api.OK || !slices.Equal(out.Vars[1:], cells[1:]) {
		t.Fatalf("%v, %s", out, err.Word())
	}
	return out.Vars[0]
}

// expression gives the code of one.
func expression(t *testing.T, s string) *compile.Code {
	t.Helper()
	e, at, err := syntax.Expression(s)
	if err != api.OK {
		t.Fatalf("%s: %v", s, at)
	}
	return compiled(t, one(e))
}

// TestP162Expressions: what each operation comes to.
func TestP162Expressions(t *testing.T) {
	for _, x := range []struct {
		s          string
		a, b, want int32
	}{
		{"7", 0, 0, 7}, {"2147483647", 0, 0, great}, {"a", 3, 0, 3}, {"a", least, 0, least}, {"b", 1, -9, -9}, {"x", 0, 0, 5}, {"x + x", 0, 0, 10}, {"a + x * 2 - x", 1, 0, 6},
		{"a + b", 3, 4, 7}, {"a + b", great, 1, least}, {"a + b", least, -1, great}, {"a - b", 3, 4, -1}, {"a - b", least, 1, great}, {"a - b", 0, least, least}, {"a * b", 3, -4, -12}, {"a * b", 65536, 65536, 0}, {"a * b", 65537, 65537, 131073}, {"a * b", least, -1, least},
		{"a / b", 7, 2, 3}, {"a / b", -7, 2, -3}, {"a / b", 7, -2, -3}, {"a / b", -7, -2, 3}, {"a / b", 7, 0, 0}, {"a / b", -7, 0, 0}, {"a / b", least, -1, least}, {"a / b", least, 1, least}, {"a / b", 0, 0, 0},
		{"a % b", 7, 2, 1}, {"a % b", -7, 2, -1}, {"a % b", 7, -2, 1}, {"a % b", -7, -2, -1}, {"a % b", 7, 0, 0}, {"a % b", least, -1, 0}, {"a % b", -7, 0, 0},
		{"- a", 5, 0, -5}, {"- a", least, 0, least}, {"- a", 0, 0, 0}, {"not a", 0, 0, 1}, {"not a", 5, 0, 0}, {"not a", -1, 0, 0}, {"not not a", 7, 0, 1}, {"- - a", 7, 0, 7},
		{"a = b", 2, 2, 1}, {"a = b", 2, 3, 0}, {"a != b", 2, 2, 0}, {"a != b", 2, 3, 1}, {"a < b", 2, 2, 0}, {"a < b", 2, 3, 1}, {"a < b", 3, 2, 0}, {"a < b", least, great, 1}, {"a < b", great, least, 0}, {"a <= b", 2, 2, 1}, {"a <= b", 2, 3, 1}, {"a <= b", 3, 2, 0},
		{"a > b", 2, 2, 0}, {"a > b", 2, 3, 0}, {"a > b", 3, 2, 1}, {"a > b", great, least, 1}, {"a > b", least, great, 0}, {"a >= b", 2, 2, 1}, {"a >= b", 2, 3, 0}, {"a >= b", 3, 2, 1},
		{"a and b", 2, 3, 1}, {"a and b", 0, 3, 0}, {"a and b", 2, 0, 0}, {"a and b", 0, 0, 0}, {"a and b", least, -1, 1}, {"a or b", 2, 3, 1}, {"a or b", 0, 3, 1}, {"a or b", 2, 0, 1}, {"a or b", 0, 0, 0}, {"a or b", least, 0, 1}, {"a and b", 1, 2, 1},
		{"l [ a ]", 0, 0, 10}, {"l [ a ]", 1, 0, 20}, {"l [ a ]", 2, 0, 30}, {"l [ a ]", 3, 0, 0}, {"l [ a ]", -1, 0, 0}, {"l [ a ]", great, 0, 0}, {"l [ a ]", least, 0, 0}, {"m [ a ]", 0, 0, 40}, {"m [ a ]", 1, 0, 0}, {"m [ a ]", -1, 0, 0},
		{"l [ l [ a ] / 10 ]", 0, 0, 20}, {"l [ l [ a ] / 10 ]", 1, 0, 30}, {"l [ l [ a ] / 10 ]", 2, 0, 0}, {"l [ l [ a ] / 10 ]", 3, 0, 10}, {"l [ a ] + l [ b ]", 0, 2, 40}, {"l [ a ] > l [ b ]", 2, 0, 1}, {"l [ a ] >= l [ b ]", 2, 2, 1},
		{"( a + b ) * ( a - b ) - a * a + b * b", 12345, 678, 0}, {"1 + a * ( 2 + b * ( 3 + a ) )", 2, 3, 1 + 2*(2+3*5)},
	} {
		if got := value(t, expression(t, x.s), x.a, x.b); got != x.want {
			t.Errorf("%s of %d, %d: %d, want %d", x.s, x.a, x.b, got, x.want)
		}
	}
	if got := value(t, compiled(t, one(syntax.Expr{N: least})), 0, 0); got != least {
		t.Error(got)
	}
	if got := value(t, compiled(t, one(syntax.Expr{N: -7})), 0, 0); got != -7 {
		t.Error(got)
	}
}

// TestP162Assign: a value is cut into the variable's range.
func TestP162Assign(t *testing.T) {
	for _, x := range []struct {
		low, high  int
		value, got int32
	}{
		{-5, 5, 3, 3}, {-5, 5, 5, 5}, {-5, 5, 6, 5}, {-5, 5, great, 5}, {-5, 5, -5, -5}, {-5, 5, -6, -5}, {-5, 5, least, -5}, {7, 9, 0, 7}, {-9, -7, 0, -7}, {4, 4, 9, 4}, {least, great, least, least}, {least, great, great, great}, {least, least, 0, least}, {great, great, 0, great},
	} {
		p := rules{vars: "var w 1 2 var v 0 1 var l [ 3 ] 0 1", play: "v = who"}.program(t)
		p.Play = nil
		p.Quiet = []syntax.Stmt{
			{Kind: syntax.Assign, Name: "v", E: []syntax.Expr{{Op: syntax.Name, Name: "who"}}},
			{Kind: syntax.Put, Name: "l", E: []syntax.Expr{{Op: syntax.Number, N: 1}, {Op: syntax.Name, Name: "who"}}},
		}
		p.Vars[1].Low, p.Vars[1].High = x.low, x.high
		p.Vars[2].Low, p.Vars[2].High = x.low, x.high
		c := compiled(t, p)
		want(t, c, compile.Silent, []int32{77, 0, 66, 0, 88}, []int32{x.value}, vars(77, x.got, 66, x.got, 88))
		first := int32(min(max(0, x.low), x.high))
		want(t, c, compile.Start, nil, nil, vars(1, first, first, first, first))
	}
}

// TestP162Put: a list's cell, if it has it; nothing else.
func TestP162Put(t *testing.T) {
	c := rules{vars: "var v 0 9 var l [ 3 ] 0 9 var w 0 9", play: "at -200 200 l [ at ] = 7"}.code(t)
	was := []int32{1, 2, 3, 4, 5}
	for at := int32(-200); at <= 200; at++ {
		now := slices.Clone(was)
		if at >= 0 && at < 3 {
			now[1+at] = 7
		}
		want(t, c, compile.Play, was, []int32{at}, vars(now...))
	}
	c = rules{vars: "var l [ 3 ] -9 9", quiet: "l [ who ] = l [ who + 1 ] + l [ l [ 0 ] ] l [ l [ 2 ] ] = 9 l [ 0 - 2147483647 - 1 ] = 1 l [ 2147483647 ] = 1"}.code(t)
	want(t, c, compile.Silent, []int32{1, 2, -1}, []int32{0}, vars(4, 2, -1))
	want(t, c, compile.Silent, []int32{1, 2, 0}, []int32{1}, vars(9, 2, 0))
	want(t, c, compile.Silent, []int32{1, 2, 5}, []int32{2}, vars(1, 2, 9))
}

// TestP162If: either block, and what stands behind.
func TestP162If(t *testing.T) {
	c := rules{vars: "var v 0 99 var w 0 99", quiet: "if who then v = v + 1 if who = 2 then v = v + 10 end else v = v + 2 if v > 5 then else w = 50 end end w = w + 1"}.code(t)
	want(t, c, compile.Silent, []int32{1, 1}, []int32{1}, vars(2, 2))
	want(t, c, compile.Silent, []int32{1, 1}, []int32{2}, vars(12, 2))
	want(t, c, compile.Silent, []int32{1, 1}, []int32{least}, vars(2, 2))
	want(t, c, compile.Silent, []int32{1, 1}, []int32{0}, vars(3, 51))
	want(t, c, compile.Silent, []int32{4, 1}, []int32{0}, vars(6, 2))
}

// TestP162For: how often, and with which numbers.
func TestP162For(t *testing.T) {
	for _, x := range []struct {
		low, high   int
		count, last int32
	}{
		{1, 3, 3, 3}, {0, 0, 1, 0}, {3, 1, 0, -7}, {1, 0, 0, -7}, {-2, 2, 5, 2}, {0, 63, 64, 63}, {-63, 0, 64, 0}, {great - 1, great, 2, great}, {great, great, 1, great}, {great - 63, great, 64, great}, {least, least, 1, least}, {least, least + 3, 4, least + 3}, {great, least, 0, -7}, {0, least, 0, -7},
	} {
		p := rules{vars: "var count 0 99 var last 0 1 var sum 0 1", quiet: "for i 0 0 do count = count + 1 last = i sum = 3 * sum + i end"}.program(t)
		for i := range p.Vars[1:] {
			p.Vars[1+i].Low, p.Vars[1+i].High = least, great
		}
		p.Quiet[0].Low, p.Quiet[0].High = x.low, x.high
		sum := int32(0)
		for i := x.low; i <= x.high; i++ {
			sum = 3*sum + int32(i)
		}
		want(t, compiled(t, p), compile.Silent, []int32{0, -7, 0}, []int32{0}, vars(x.count, x.last, sum))
	}
	c := rules{vars: "var s 0 9999", quiet: "for i 1 3 do for j 1 2 do s = 2 * s + i + j end s = s + i for j 5 5 do s = s + j end end for i 7 7 do s = s + i end"}.code(t)
	s := int32(0)
	for i := int32(1); i <= 3; i++ {
		for j := int32(1); j <= 2; j++ {
			s = 2*s + i + j
		}
		s += i + 5
	}
	want(t, c, compile.Silent, []int32{0}, []int32{0}, vars(s+7))
	deep := rules{vars: "var s 0 9999", quiet: "for a 1 2 do for b 1 2 do for c 1 2 do for d 1 2 do for e 1 2 do for f 1 2 do for g 1 2 do for h 1 2 do s = s + a * b * c * d * e * f * g * h end end end end end end end end"}.code(t)
	want(t, deep, compile.Silent, []int32{0}, []int32{0}, vars(6561)) // (1 + 2), eight times
}

// TestP162Play: refused, with a throw, or neither; and arguments.
func TestP162Play(t *testing.T) {
	c := rules{vars: "var l [ 2 ] 0 9 var d 0 9 var e 0 9", play: "a 0 4, b -3 3 d = 8 if a = 1 then refuse d = 7 end if a = 2 then roll d 6 end if a >= 3 then roll d 2 roll e 1000 end if a = 4 and b = 3 then refuse end l [ 0 ] = a + b"}.code(t)
	was := []int32{1, 2, 3, 4}
	want(t, c, compile.Play, was, []int32{0, 3}, vars(3, 2, 8, 4))
	want(t, c, compile.Play, was, []int32{1, 0}, compile.Out{Refused: true})
	want(t, c, compile.Play, was, []int32{2, -3}, compile.Out{Vars: []int32{0, 2, 8, 4}, Cell: 2, Sides: 6})
	want(t, c, compile.Play, was, []int32{3, 1}, compile.Out{Vars: []int32{4, 2, 8, 4}, Cell: 3, Sides: 1000})
	want(t, c, compile.Play, was, []int32{4, 3}, compile.Out{Refused: true})
	want(t, rules{vars: "var d 0 9", play: "roll d 2"}.code(t), compile.Play, []int32{5}, nil, compile.Out{Vars: []int32{5}, Sides: 2})
	want(t, rules{}.code(t), compile.Play, nil, nil, compile.Out{})
	want(t, rules{}.code(t), compile.Start, nil, nil, compile.Out{})
	want(t, rules{play: "refuse"}.code(t), compile.Play, nil, nil, compile.Out{Refused: true})
	four := rules{vars: "var v 0 9999", play: "a 0 3, b 1 4, c 2 5, d 3 6 v = 1000 * a + 100 * b + 10 * c + d"}.code(t)
	want(t, four, compile.Play, []int32{0}, []int32{3, 1, 4, 6}, vars(3146))
}

// TestP162Turn: whose turn it is; what stands behind counts no more.
func TestP162Turn(t *testing.T) {
	c := rules{vars: "var v -9 9", turn: "for i 0 9 do if v = i then seat 10 * i end end if v = -1 then over end if v = -2 then seat 0 - 1 over else if v < -5 then over else seat v end end seat 99"}.code(t)
	for v, seat := range map[int32]int{0: 0, 3: 30, 9: 90, -1: -1, -2: -1, -3: -3, -5: -5, -6: -1, -9: -1, 10: 10, great: great} {
		want(t, c, compile.Turn, []int32{v}, nil, compile.Out{Seat: seat})
	}
	want(t, rules{turn: "seat 1 seat 2"}.code(t), compile.Turn, nil, nil, compile.Out{Seat: 1})
	want(t, rules{turn: "over seat 2"}.code(t), compile.Turn, nil, nil, compile.Out{Seat: -1})
	want(t, rules{turn: "seat - 2147483647 - 1"}.code(t), compile.Turn, nil, nil, compile.Out{Seat: least})
}

// TestP162Pay: what is asked for each seat, and to whom the rest goes.
func TestP162Pay(t *testing.T) {
	const most = compile.MostAsk
	for _, x := range []struct {
		pays string
		asks []int32
		rest int
	}{
		{"rest 0", []int32{0, 0, 0}, 0}, {"rest 2", []int32{0, 0, 0}, 2}, {"rest 3", []int32{0, 0, 0}, 0}, {"rest - 1", []int32{0, 0, 0}, 0}, {"rest 2147483647", []int32{0, 0, 0}, 0}, {"rest - 2147483647 - 1", []int32{0, 0, 0}, 0},
		{"pay 1 4 rest 1", []int32{0, 4, 0}, 1}, {"pay 1 4 pay 2 5 pay 1 6 rest 1", []int32{0, 10, 5}, 1}, {"pay 0 4 pay 2 1 rest v", []int32{4, 0, 1}, 1}, {"pay v v rest 0", []int32{0, 1, 0}, 0},
		{"pay 3 4 rest 0", []int32{4, 0, 0}, 0}, {"pay 9 4 pay - 1 5 rest 0", []int32{9, 0, 0}, 0}, {"pay 2147483647 4 pay - 2147483647 - 1 5 rest 0", []int32{9, 0, 0}, 0},
		{"pay 1 ( - 4 ) rest 0", []int32{0, 0, 0}, 0}, {"pay 1 7 pay 1 ( - 4 ) rest 0", []int32{0, 7, 0}, 0}, {"pay 2 ( - 2147483647 - 1 ) rest 0", []int32{0, 0, 0}, 0},
		{"pay 1 2147483647 rest 0", []int32{0, most, 0}, 0}, {"pay 1 1073741823 rest 0", []int32{0, most, 0}, 0}, {"pay 1 1073741824 rest 0", []int32{0, most, 0}, 0}, {"pay 1 1073741822 rest 0", []int32{0, most - 1, 0}, 0},
		{"pay 1 1073741822 pay 1 1 rest 0", []int32{0, most, 0}, 0}, {"pay 1 1073741822 pay 1 2 rest 0", []int32{0, most, 0}, 0}, {"pay 1 1073741823 pay 1 1073741823 pay 1 5 rest 0", []int32{0, most, 0}, 0},
		{"for i 0 2 do pay i i * i + 1 end rest 2", []int32{1, 2, 5}, 2}, {"v = 2 pay v v l [ 1 ] = 7 pay 0 l [ 1 ] rest v", []int32{7, 0, 2}, 2}, {"if v then pay 0 1 else pay 0 2 end rest 1", []int32{1, 0, 0}, 1},
	} {
		c := rules{seats: 3, vars: "var v 0 9 var l [ 2 ] 0 9", pays: x.pays}.code(t)
		want(t, c, compile.Pay, []int32{1, 5, 5}, nil, compile.Out{Asks: x.asks, Rest: x.rest})
	}
	for seats := 2; seats <= 8; seats++ {
		asks := make([]int32, seats)
		asks[seats-1], asks[0] = 7, 1
		c := rules{seats: seats, pays: fmt.Sprint("pay ", seats-1, " 7 pay ", seats, " 1 rest ", seats-1)}.code(t)
		want(t, c, compile.Pay, nil, nil, compile.Out{Asks: asks, Rest: seats - 1})
	}
}

// TestP162Taken: cells that are beyond their ranges are taken as they are.
func TestP162Taken(t *testing.T) {
	c := rules{vars: "var v 0 9 var l [ 2 ] 0 9", turn: "seat v", play: "if l [ 1 ] < 0 then l [ 0 ] = v end", quiet: "v = v + 0", pays: "pay 1 l [ 1 ] rest v"}.code(t)
	was := []int32{great, least, -7}
	want(t, c, compile.Turn, was, nil, compile.Out{Seat: great})
	want(t, c, compile.Play, was, nil, vars(great, 9, -7))
	want(t, c, compile.Silent, was, []int32{0}, vars(9, least, -7))
	want(t, c, compile.Pay, []int32{1, 0, 77}, nil, compile.Out{Asks: []int32{0, 77}, Rest: 1})
}

// TestP162Wrong: what can't be run, and which error counts.
func TestP162Wrong(t *testing.T) {
	c := rules{vars: "var v 0 9 var l [ 2 ] 0 9", play: "a 0 3, b -2 2"}.code(t)
	three := []int32{1, 2, 3}
	for _, part := range []int{-1, 5, 6, math.MinInt, math.MaxInt} {
		wantNot(t, c, part, nil, nil, api.ErrArg)
		wantNot(t, c, part, three, []int32{9, 9, 9}, api.ErrArg)
	}
	for part := range compile.Parts {
		args := [][]int32{nil, nil, {3, 2}, {7}, nil}[part]
		for n := range 6 {
			l := make([]int32, n)
			if n == 3 && part != compile.Start || n == 0 && part == compile.Start {
				if _, err := c.Run(part, l, args); err != api.OK {
					t.Error(part, n, err.Word())
				}
				for k := range 7 {
					if k != len(args) {
						wantNot(t, c, part, l, make([]int32, k), api.ErrForm)
						wantNot(t, c, part, l, slices.Repeat([]int32{99}, k), api.ErrForm)
					}
				}
				continue
			}
			wantNot(t, c, part, l, args, api.ErrForm)
			wantNot(t, c, part, l, slices.Repeat([]int32{99}, len(args)), api.ErrForm)
		}
	}
	for _, args := range [][]int32{{-1, 0}, {4, 0}, {0, -3}, {0, 3}, {great, 0}, {0, least}, {9, 9}} {
		wantNot(t, c, compile.Play, three, args, api.ErrRange)
	}
	for _, args := range [][]int32{{0, -2}, {0, 2}, {3, -2}, {3, 2}} {
		want(t, c, compile.Play, three, args, vars(1, 2, 3))
	}
	for _, who := range []int32{least, -1, 0, 1, 2, great} {
		want(t, c, compile.Silent, three, []int32{who}, vars(1, 2, 3))
	}
	none := rules{}.code(t)
	for part := range compile.Parts {
		wantNot(t, none, part, []int32{0}, nil, api.ErrForm)
	}
	wantNot(t, none, compile.Play, nil, []int32{0}, api.ErrForm)
	wantNot(t, none, compile.Silent, nil, nil, api.ErrForm)
}

// TestP163Parts: instructions that may be, of so many words, and how many steps they take.
func TestP163Parts(t *testing.T) {
	p := rules{vars: "var v 0 9 var l [ 2 ] 0 9", start: "v = 3", turn: "seat v", play: "a 0 3 refuse", quiet: "for i 1 3 do v = i end", pays: "pay 1 2 rest 1"}.program(t)
	c := compiled(t, p)
	steps, _ := bound.Steps(p)
	for part := range compile.Parts {
		l := c.Instrs(part)
		if at, err := code.Check(l, c.Words()); at != -1 || err != api.OK {
			t.Errorf("part %d: %d, %s", part, at, err.Word())
		}
		if c.Most(part) != steps[part] {
			t.Errorf("part %d: %d, want %d", part, c.Most(part), steps[part])
		}
	}
	for _, part := range []int{-1, 5, math.MinInt, math.MaxInt} {
		if len(c.Instrs(part)) != 0 || c.Most(part) != 0 {
			t.Error(part)
		}
	}
}

// TestP163Limits: rules at each limit of form still fit into the machine.
func TestP163Limits(t *testing.T) {
	deep := "l [ " + strings.Repeat("- l [ ", 4) + "a + v > b" + strings.Repeat(" ]", 5)
	right := strings.Repeat("1 - ( ", 11) + "d" + strings.Repeat(" )", 11)
	fors := strings.Repeat("for _ 1 1 do ", 8)
	for _, name := range []string{"f1", "f2", "f3", "f4", "f5", "f6", "f7", "f8"} {
		fors = strings.Replace(fors, "_", name, 1)
	}
	much := rules{seats: 8, vars: "var l [ 63 ] -9 9 var v -9 9", play: "a 0 1, b 0 1, c 0 1, d 0 1 " + fors + "l [ " + right + " ] = " + deep + " l [ " + deep + " ] = " + right + strings.Repeat(" end", 8)}.program(t)
	ifs := rules{quiet: strings.Repeat("if who then ", 15) + strings.Repeat("end ", 15)}.program(t)
	nested := syntax.Stmt{Kind: syntax.If, E: []syntax.Expr{{N: 1}}}
	for range 126 {
		nested = syntax.Stmt{Kind: syntax.If, E: []syntax.Expr{{N: 1}}, L: []syntax.Stmt{nested}, Else: nil}
	}
	ifs.Start = []syntax.Stmt{nested}
	loops := rules{start: strings.Repeat("for i 5 5 do end ", 256), turn: strings.Repeat("for i 5 5 do end ", 255) + "over", pays: strings.Repeat("pay 1 1 ", 84) + "rest 1"}.program(t)
	puts := rules{vars: "var l [ 64 ] 0 9", start: strings.Repeat("l [ l [ 1 ] ] = l [ 1 ] ", 42)}.program(t)
	negs := rules{vars: "var v 0 9", start: strings.Repeat("v = - - - - - - - - - - - v ", 19), quiet: strings.Repeat("if who then v = 1 else v = 2 end ", 42)}.program(t)
	for i, p := range []syntax.Program{much, ifs, loops, puts, negs} {
		c := compiled(t, p)
		for part := range compile.Parts {
			if at, err := code.Check(c.Instrs(part), c.Words()); err != api.OK {
				t.Errorf("%d: part %d: %d, %s", i, part, at, err.Word())
			}
			cells, args := make([]int32, sorts.Cells(p)), make([]int32, []int{0, 0, len(p.Params), 1, 0}[part])
			if part == compile.Start {
				cells = nil
			}
			hold(t, p, c, part, cells, args)
		}
	}
}

// TestP163Out: what a state that is halted says; and those that say nothing.
func TestP163Out(t *testing.T) {
	c := rules{seats: 3, vars: "var v 0 9 var l [ 2 ] 0 9", play: "a 0 1 roll v 6", turn: "seat 1", pays: "pay 1 2 rest 1"}.code(t)
	words := c.Words()
	for part := -1; part <= compile.Parts; part++ {
		for _, n := range []int{0, 1, words - 1, words, words + 1, 256, 300} {
			for _, halt := range []int{math.MinInt, -1, machine.Runs, machine.Done, machine.Refused, 3, math.MaxInt} {
				for _, pc := range []int{0, 1, -1, 2049, math.MaxInt} {
					s := machine.State{Pc: pc, Mem: slices.Repeat([]int32{77}, n), Halt: halt}
					out, err := c.Out(part, s)
					var want compile.Out
					wantErr := api.OK
					switch {
					case part < 0 || part >= compile.Parts:
						wantErr = api.ErrArg
					case halt != machine.Done && halt != machine.Refused || n != words:
						wantErr = api.ErrState
					case halt == machine.Refused:
						want.Refused = true
					default:
						want = []compile.Out{
							{Vars: []int32{77, 77, 77}}, {Seat: 77}, {Vars: []int32{77, 77, 77}, Cell: 77, Sides: 77}, {Vars: []int32{77, 77, 77}}, {Asks: []int32{77, 77, 77}, Rest: 77},
						}[part]
					}
					if told(out) != told(want) || err != wantErr {
						t.Errorf("part %d, %d words, halt %d: %s, %s; want %s, %s", part, n, halt, told(out), err.Word(), told(want), wantErr.Word())
					}
				}
			}
		}
	}
	for _, word := range []int32{least, -1, great} {
		s := machine.State{Mem: slices.Repeat([]int32{word}, words), Halt: machine.Done}
		if out, err := c.Out(compile.Pay, s); err != api.OK || told(out) != told(compile.Out{Asks: []int32{word, word, word}, Rest: int(word)}) {
			t.Errorf("%s, %s", told(out), err.Word())
		}
		if out, err := c.Out(compile.Turn, s); err != api.OK || out.Seat != int(word) {
			t.Errorf("%s, %s", told(out), err.Word())
		}
	}
}

// TestP165Nil: a nil Code.
func TestP165Nil(t *testing.T) {
	for _, c := range []*compile.Code{nil, {}} {
		for part := -1; part <= compile.Parts; part++ {
			wantNot(t, c, part, nil, nil, api.ErrArg)
			wantNot(t, c, part, []int32{1}, []int32{1}, api.ErrArg)
			for halt := range 4 {
				if out, err := c.Out(part, machine.State{Halt: halt}); err != api.ErrArg || told(out) != told(compile.Out{}) {
					t.Error(part, halt, told(out), err.Word())
				}
			}
			if len(c.Instrs(part)) != 0 || c.Most(part) != 0 || c.Words() != 0 {
				t.Error(part)
			}
		}
	}
}

// TestP165Kept: what is handed in is neither kept nor changed, and answers are new memory.
func TestP165Kept(t *testing.T) {
	r := rules{vars: "var v 3 9 var l [ 2 ] 0 9", start: "v = 5", turn: "seat v", play: "a 0 3 v = a if a = 2 then roll v 6 end", quiet: "l [ who ] = 8", pays: "pay 1 v rest 1"}
	p := r.program(t)
	c := compiled(t, p)
	if fmt.Sprint(p) != fmt.Sprint(r.program(t)) {
		t.Error("a program is changed")
	}
	p.Vars[0] = syntax.Var{Name: "w", Low: -7, High: -6}
	p.Params[0].High = 99
	for _, l := range [][]syntax.Stmt{p.Start, p.Turn, p.Play, p.Quiet, p.Pays} {
		clear(l)
	}
	look := func() {
		t.Helper()
		want(t, c, compile.Start, nil, nil, vars(5, 0, 0))
		cells, args := []int32{4, 1, 2}, []int32{2}
		want(t, c, compile.Turn, cells, nil, compile.Out{Seat: 4})
		want(t, c, compile.Play, cells, args, compile.Out{Vars: []int32{2 + 1, 1, 2}, Sides: 6})
		wantNot(t, c, compile.Play, cells, []int32{4}, api.ErrRange)
		args[0] = 1
		want(t, c, compile.Silent, cells, args, vars(4, 1, 8))
		want(t, c, compile.Pay, cells, nil, compile.Out{Asks: []int32{0, 4}, Rest: 1})
		if !slices.Equal(cells, []int32{4, 1, 2}) || args[0] != 1 {
			t.Error("cells or arguments are changed")
		}
	}
	look()
	for part := range compile.Parts {
		clear(c.Instrs(part))
		cells, args := []int32{4, 1, 2}, [][]int32{nil, nil, {1}, {1}, nil}[part]
		if part == compile.Start {
			cells = nil
		}
		s, _ := c.State(part, cells, args)
		clear(s.Mem)
		if part != compile.Start && !slices.Equal(cells, []int32{4, 1, 2}) {
			t.Error("a state holds the cells that were handed in")
		}
		out, _ := c.Run(part, cells, args)
		clear(out.Vars)
		clear(out.Asks)
		s = machine.State{Mem: slices.Repeat([]int32{7}, c.Words()), Halt: machine.Done}
		out, _ = c.Out(part, s)
		clear(out.Vars)
		clear(out.Asks)
		if !slices.Equal(s.Mem, slices.Repeat([]int32{7}, c.Words())) {
			t.Error("an answer holds the state that was handed in")
		}
	}
	look()
}
