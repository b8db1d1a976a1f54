package sorts_test

import (
	"math"
	"slices"
	"strconv"
	"strings"
	"testing"

	"baize/api"
	"baize/sorts"
	"baize/syntax"
)

// well is a program that may be, with each thing that there is.
const well = `game tic
seats 2
stake 1 2147483647
var a 0 7
var b -2147483647 2147483647
var c [ 9 ] -5 5
start
  a = 1
  for i 0 63 do
    c [ i % 9 ] = - i
    for j -3 -4 do
      b = j + i
    end
  end
end
turn
  if a = b then
    seat a - ( b - 1 )
  else
    over
  end
end
play n 1 3, m -2 2
  if n < m or not m then
    refuse
  else
    roll a 6
  end
  c [ n ] = m
end
silent who
  a = who + c [ who ]
end
pay
  pay 0 a
  if b then
    pay 1 c [ 8 ]
  end
  rest 1
end
`

func num(n int) syntax.Expr {
	return syntax.Expr{Op: syntax.Number, N: n}
}

func nam(s string) syntax.Expr {
	return syntax.Expr{Op: syntax.Name, Name: s}
}

func index(s string, at syntax.Expr) syntax.Expr {
	return syntax.Expr{Op: syntax.Index, Name: s, L: []syntax.Expr{at}}
}

func of(op int, l ...syntax.Expr) syntax.Expr {
	return syntax.Expr{Op: op, L: l}
}

// parsed is a new tree of a text.
func parsed(t *testing.T, s string) syntax.Program {
	t.Helper()
	p, at, err := syntax.Parse(s)
	if err != api.OK {
		t.Fatalf("%q: %v, %s", s, at, err.Word())
	}
	return p
}

// want looks what is wrong with a program.
func want(t *testing.T, what string, p syntax.Program, e api.Errno, name string) {
	t.Helper()
	if f := sorts.Check(p); f != (sorts.Fault{E: e, Name: name}) {
		t.Errorf("%s: %s, %q; want %s, %q", what, f.E.Word(), f.Name, e.Word(), name)
	}
	if f := other(p); f != (sorts.Fault{E: e, Name: name}) {
		t.Errorf("%s: the tests' own look says %s, %q; want %s, %q", what, f.E.Word(), f.Name, e.Word(), name)
	}
}

// wantChanged looks what is wrong with the program that is well, once it is changed.
func wantChanged(t *testing.T, what string, change func(p *syntax.Program), e api.Errno, name string) {
	t.Helper()
	p := parsed(t, well)
	change(&p)
	want(t, what, p, e, name)
}

// statements gives those of a text, as they stand in a part.
func statements(t *testing.T, s string) []syntax.Stmt {
	t.Helper()
	return parsed(t, "game g seats 2 stake 1 1 start "+s+" end turn end play end silent s end pay end").Start
}

// TestExample: the chapter's.
func TestExample(t *testing.T) {
	want(t, "well", parsed(t, well), api.OK, "")
	wantChanged(t, "an if without else", func(p *syntax.Program) { p.Turn = statements(t, "if a then over end") }, api.ErrShort, "turn")
	wantChanged(t, "a place of a plain one", func(p *syntax.Program) { p.Play = statements(t, "a [ 1 ] = 2") }, api.ErrSort, "a")
}

// TestP121Limits: the limits are those of the chapter.
func TestP121Limits(t *testing.T) {
	if sorts.MostCells != 64 || sorts.MostParams != 4 || sorts.MostSize != 1000 || sorts.MostDeep != 12 || sorts.MostMenu != 512 {
		t.Error("limits")
	}
}

// badNames are no names.
var badNames = []string{"", "if", "game", "rest", "1", "1a", "_a", "a b", "a ", "a-b", "é", "a#", strings.Repeat("n", 31)}

// TestP121Names: who has to have a name.
func TestP121Names(t *testing.T) {
	for _, bad := range badNames {
		wantChanged(t, "the game", func(p *syntax.Program) { p.Name = bad }, api.ErrName, bad)
		wantChanged(t, "a variable", func(p *syntax.Program) { p.Vars[0].Name = bad }, api.ErrName, bad)
		wantChanged(t, "the last variable", func(p *syntax.Program) { p.Vars[2].Name = bad }, api.ErrName, bad)
		wantChanged(t, "a parameter", func(p *syntax.Program) { p.Params[0].Name = bad }, api.ErrName, bad)
		wantChanged(t, "the last parameter", func(p *syntax.Program) { p.Params[1].Name = bad }, api.ErrName, bad)
		wantChanged(t, "silent", func(p *syntax.Program) { p.Silent = bad }, api.ErrName, bad)
		wantChanged(t, "a for", func(p *syntax.Program) { p.Start[1].Name = bad }, api.ErrName, bad)
		wantChanged(t, "a for within", func(p *syntax.Program) { p.Start[1].L[1].Name = bad }, api.ErrName, bad)
	}
	long := strings.Repeat("n", 30)
	wantChanged(t, "long names", func(p *syntax.Program) {
		p.Name, p.Silent = long, long
		p.Quiet = statements(t, "a = "+long)
	}, api.OK, "")
	wantChanged(t, "a game's name isn't known", func(p *syntax.Program) { p.Name = "a" }, api.OK, "")
	wantChanged(t, "a game's name isn't known", func(p *syntax.Program) { p.Start = statements(t, "a = tic") }, api.ErrName, "tic")
}

// TestP121Stakes: seats and stakes.
func TestP121Stakes(t *testing.T) {
	for _, seats := range []int{math.MinInt, -1, 0, 1, 9, 10, math.MaxInt} {
		wantChanged(t, "seats", func(p *syntax.Program) { p.Seats, p.Stakes = seats, slices.Repeat([]int{1}, max(0, min(seats, 10))) }, api.ErrRange, "seats")
	}
	for seats := 2; seats <= 8; seats++ {
		for n := range 10 {
			e, name := api.ErrForm, "stake"
			if n == seats {
				e, name = api.OK, ""
			}
			wantChanged(t, "stakes", func(p *syntax.Program) { p.Seats, p.Stakes = seats, slices.Repeat([]int{1}, n) }, e, name)
		}
	}
	for _, stake := range []int{math.MinInt, -1, 0, 1 << 31, math.MaxInt} {
		wantChanged(t, "a stake", func(p *syntax.Program) { p.Stakes[0] = stake }, api.ErrRange, "stake")
		wantChanged(t, "the last stake", func(p *syntax.Program) { p.Stakes[1] = stake }, api.ErrRange, "stake")
	}
}

// TestP121Vars: variables and parameters, in which numbers they may be, and who has a name already.
func TestP121Vars(t *testing.T) {
	for _, x := range []struct {
		low, high int
		e         api.Errno
	}{
		{0, 0, api.OK}, {-1 << 31, -1 << 31, api.OK}, {1<<31 - 1, 1<<31 - 1, api.OK}, {-1<<31 - 1, 0, api.ErrRange}, {0, 1 << 31, api.ErrRange}, {1 << 31, 1 << 31, api.ErrRange}, {-1<<31 - 1, -1<<31 - 1, api.ErrRange},
		{1, 0, api.ErrRange}, {math.MinInt, math.MaxInt, api.ErrRange}, {math.MaxInt, math.MinInt, api.ErrRange}, {0, -1, api.ErrRange},
	} {
		names := map[bool]string{true: "a", false: ""}
		wantChanged(t, "a variable", func(p *syntax.Program) { p.Vars[0].Low, p.Vars[0].High = x.low, x.high }, x.e, names[x.e != api.OK])
		names[true] = "m"
		wantChanged(t, "a parameter", func(p *syntax.Program) { p.Params[1].Low, p.Params[1].High = x.low, x.high }, x.e, names[x.e != api.OK])
	}
	wantChanged(t, "all numbers", func(p *syntax.Program) { p.Vars[0].Low, p.Vars[0].High = -1<<31, 1<<31-1 }, api.OK, "")
	wantChanged(t, "all numbers as a menu", func(p *syntax.Program) { p.Params[0].Low, p.Params[0].High = -1<<31, 1<<31-1 }, api.ErrFull, "play")
	for _, size := range []int{math.MinInt, -1, 65, math.MaxInt} {
		wantChanged(t, "a size", func(p *syntax.Program) { p.Vars[2].Size = size }, api.ErrRange, "c")
	}
	for _, size := range []int{math.MinInt, -1, 1, 2, 65, math.MaxInt} {
		wantChanged(t, "a parameter's size", func(p *syntax.Program) { p.Params[1].Size = size }, api.ErrForm, "m")
	}
	wantChanged(t, "twice", func(p *syntax.Program) { p.Vars[1].Name = "a" }, api.ErrTwice, "a")
	wantChanged(t, "twice, not one behind the other", func(p *syntax.Program) { p.Vars[2].Name = "a" }, api.ErrTwice, "a")
	wantChanged(t, "a list, too", func(p *syntax.Program) { p.Vars = append(p.Vars, syntax.Var{Name: "c"}) }, api.ErrTwice, "c")
	wantChanged(t, "a parameter as a variable", func(p *syntax.Program) { p.Params[1].Name = "c" }, api.ErrTwice, "c")
	wantChanged(t, "two parameters", func(p *syntax.Program) { p.Params[1].Name = "n" }, api.ErrTwice, "n")
	wantChanged(t, "silent as a variable", func(p *syntax.Program) { p.Silent = "b" }, api.ErrTwice, "b")
	wantChanged(t, "silent as a parameter", func(p *syntax.Program) { p.Silent, p.Quiet = "n", statements(t, "a = n") }, api.OK, "")
}

// TestP121Full: how many cells, parameters and moves there may be.
func TestP121Full(t *testing.T) {
	vars := func(count int, sizes ...int) []syntax.Var {
		var l []syntax.Var
		for i := range count {
			l = append(l, syntax.Var{Name: "v" + strconv.Itoa(i)})
		}
		for i, size := range sizes {
			l = append(l, syntax.Var{Name: "w" + strconv.Itoa(i), Size: size})
		}
		return l
	}
	for _, x := range []struct {
		l []syntax.Var
		e api.Errno
	}{
		{nil, api.OK}, {vars(64), api.OK}, {vars(65), api.ErrFull}, {vars(0, 64), api.OK}, {vars(1, 64), api.ErrFull}, {vars(0, 32, 32), api.OK}, {vars(0, 32, 33), api.ErrFull}, {vars(62, 2), api.OK}, {vars(62, 1, 1, 1), api.ErrFull}, {vars(1000), api.ErrFull},
	} {
		p := syntax.Program{Name: "g", Seats: 2, Stakes: []int{1, 1}, Silent: "s", Vars: x.l, Turn: statements(t, "over"), Pays: statements(t, "rest 0")}
		want(t, strconv.Itoa(len(x.l))+" variables", p, x.e, map[api.Errno]string{api.ErrFull: "var"}[x.e])
	}
	for _, x := range []struct {
		highs []int
		e     api.Errno
	}{
		{nil, api.OK}, {[]int{511}, api.OK}, {[]int{512}, api.ErrFull}, {[]int{0, 0, 0, 0}, api.OK}, {[]int{0, 0, 0, 0, 0}, api.ErrFull}, {[]int{1, 255}, api.OK}, {[]int{15, 31}, api.OK}, {[]int{26, 18}, api.ErrFull}, {[]int{3, 3, 3, 7}, api.OK}, {[]int{3, 3, 3, 8}, api.ErrFull}, {[]int{1 << 30, 1 << 30, 1 << 30, 1 << 30}, api.ErrFull}, {[]int{0, 0, 0, 0, 0, 0, 0}, api.ErrFull},
	} {
		wantChanged(t, "parameters", func(p *syntax.Program) {
			p.Play, p.Params = nil, nil
			for i, high := range x.highs {
				p.Params = append(p.Params, syntax.Var{Name: "n" + strconv.Itoa(i), High: high})
			}
		}, x.e, map[api.Errno]string{api.ErrFull: "play"}[x.e])
	}
}

// TestP121Long: how much a program may have.
func TestP121Long(t *testing.T) {
	for _, part := range []func(p *syntax.Program) *[]syntax.Stmt{
		func(p *syntax.Program) *[]syntax.Stmt { return &p.Start }, func(p *syntax.Program) *[]syntax.Stmt { return &p.Play }, func(p *syntax.Program) *[]syntax.Stmt { return &p.Quiet },
	} {
		p := parsed(t, well)
		p.Name = "it"
		room := sorts.MostSize - syntax.Size(p)
		for n := range 3 {
			q := p
			l := slices.Clone(*part(&p))
			if (room-n)%2 == 1 {
				l = append(l, syntax.Stmt{Kind: syntax.For, Name: "z"})
			}
			*part(&q) = append(l, slices.Repeat(statements(t, "a = 1"), (room-n)/2)...)
			want(t, strconv.Itoa(syntax.Size(q)), q, api.OK, "")
		}
		*part(&p) = append(slices.Clone(*part(&p)), slices.Repeat(statements(t, "for z 1 1 do end"), room+1)...)
		want(t, "one more", p, api.ErrLong, "it")
	}
}

// parts gives a program's parts, with their names.
func parts(p *syntax.Program) map[string]*[]syntax.Stmt {
	return map[string]*[]syntax.Stmt{"start": &p.Start, "turn": &p.Turn, "play": &p.Play, "silent": &p.Quiet, "pay": &p.Pays}
}

// within gives statements ahead of those of a part, deep or not.
func within(l []syntax.Stmt) [][]syntax.Stmt {
	return [][]syntax.Stmt{
		l,
		{{Kind: syntax.If, E: []syntax.Expr{num(1)}, L: l}},
		{{Kind: syntax.If, E: []syntax.Expr{num(1)}, Else: l}},
		{{Kind: syntax.For, Name: "z", High: 1, L: l}},
	}
}

// wantStatement looks what is wrong with statements, wherever they stand in a part.
func wantStatement(t *testing.T, part string, l []syntax.Stmt, e api.Errno, name string) {
	t.Helper()
	for _, x := range within(l) {
		p := parsed(t, well)
		at := parts(&p)[part]
		*at = append(x, *at...)
		want(t, part, p, e, name)
	}
}

// TestP121Form: kinds and operations, and how many expressions they have.
func TestP121Form(t *testing.T) {
	for part := range parts(&syntax.Program{}) {
		for _, kind := range []int{math.MinInt, -1, 10, 11, math.MaxInt} {
			for n := range 3 {
				wantStatement(t, part, []syntax.Stmt{{Kind: kind, Name: "a", E: make([]syntax.Expr, n)}}, api.ErrForm, "")
			}
		}
		for kind, count := range []int{1, 2, 1, 0, 0, 0, 1, 0, 2, 1} {
			for n := range 5 {
				if n != count {
					wantStatement(t, part, []syntax.Stmt{{Kind: kind, Name: "a", Low: 2, High: 2, E: make([]syntax.Expr, n)}}, api.ErrForm, "")
				}
			}
		}
		assign := func(e syntax.Expr) []syntax.Stmt {
			return []syntax.Stmt{{Kind: syntax.Assign, Name: "a", E: []syntax.Expr{e}}}
		}
		for _, op := range []int{math.MinInt, -1, 18, 19, math.MaxInt} {
			for n := range 3 {
				wantStatement(t, part, assign(of(op, make([]syntax.Expr, n)...)), api.ErrForm, "")
			}
		}
		for op := range 18 {
			count := 2
			if op <= syntax.Not {
				count = []int{0, 0, 1, 1, 1}[op]
			}
			for n := range 5 {
				e := of(op, make([]syntax.Expr, n)...)
				e.Name = map[int]string{syntax.Name: "a", syntax.Index: "c"}[op]
				want := api.ErrForm
				if n == count {
					want = api.OK
				}
				for _, x := range []syntax.Expr{e, of(syntax.Neg, e), of(syntax.Add, num(1), e), of(syntax.Add, e, num(1)), index("c", e)} {
					wantStatement(t, part, assign(x), want, "")
				}
			}
		}
	}
}

// TestP121State: what stands where it may not.
func TestP121State(t *testing.T) {
	for s, only := range map[string]string{"refuse": "play", "roll a 6": "play", "seat 1": "turn", "over": "turn", "pay 1 1": "pay", "rest 1": "", "a = 1": "*", "c [ 1 ] = 1": "*", "if 1 then end": "*", "for i 1 2 do end": "*"} {
		for part := range parts(&syntax.Program{}) {
			if only == "*" || only == part {
				wantStatement(t, part, statements(t, s), api.OK, "")
			} else {
				wantStatement(t, part, statements(t, s), api.ErrState, part)
			}
		}
	}
	for i, s := range []string{"if 1 then rest 1 end", "if 1 then else rest 1 end", "for i 1 1 do rest 1 end", "rest 1 pay 1 1", "rest 1 rest 1", "if 1 then rest 1 end rest 1"} {
		wantChanged(t, "a rest "+strconv.Itoa(i), func(p *syntax.Program) { p.Pays = statements(t, s) }, api.ErrState, "pay")
	}
	wantChanged(t, "a rest alone", func(p *syntax.Program) { p.Pays = statements(t, "rest 1") }, api.OK, "")
	wantChanged(t, "a rest elsewhere", func(p *syntax.Program) { p.Turn = statements(t, "over rest 1") }, api.ErrState, "turn")
}

// TestP121Known: which names are known where, and what may be assigned.
func TestP121Known(t *testing.T) {
	where := map[string][]string{"a": {"start", "turn", "play", "silent", "pay"}, "c": {"start", "turn", "play", "silent", "pay"}, "n": {"play"}, "m": {"play"}, "who": {"silent"}, "i": nil, "zz": nil, "": nil, "if": nil, "tic": nil}
	for name, in := range where {
		for part := range parts(&syntax.Program{}) {
			// What a statement comes to, by what the name has to be in it: a plain variable, a list, what is plain.
			pick := func(ok bool) (api.Errno, string) {
				switch {
				case !slices.Contains(in, part):
					return api.ErrName, name
				case !ok:
					return api.ErrSort, name
				}
				return api.OK, ""
			}
			e, s := pick(name == "a")
			wantStatement(t, part, []syntax.Stmt{{Kind: syntax.Assign, Name: name, E: []syntax.Expr{num(1)}}}, e, s)
			if part == "play" {
				wantStatement(t, part, []syntax.Stmt{{Kind: syntax.Roll, Name: name, Low: 6}}, e, s)
			}
			e, s = pick(name == "c")
			wantStatement(t, part, []syntax.Stmt{{Kind: syntax.Put, Name: name, E: []syntax.Expr{num(1), num(1)}}}, e, s)
			for _, x := range []syntax.Expr{index(name, num(1)), of(syntax.Not, index(name, num(1))), index("c", index(name, nam("a"))), of(syntax.Mul, nam("a"), index(name, num(1)))} {
				wantStatement(t, part, []syntax.Stmt{{Kind: syntax.If, E: []syntax.Expr{x}}}, e, s)
			}
			e, s = pick(name != "c")
			for _, x := range []syntax.Expr{nam(name), of(syntax.Neg, nam(name)), index("c", nam(name)), of(syntax.Or, nam("a"), nam(name))} {
				wantStatement(t, part, []syntax.Stmt{{Kind: syntax.If, E: []syntax.Expr{x}}}, e, s)
				wantStatement(t, part, []syntax.Stmt{{Kind: syntax.Put, Name: "c", E: []syntax.Expr{x, num(1)}}}, e, s)
				wantStatement(t, part, []syntax.Stmt{{Kind: syntax.Put, Name: "c", E: []syntax.Expr{num(1), x}}}, e, s)
			}
		}
	}
}

// TestP121Fors: a for's name, where it is known, and its numbers.
func TestP121Fors(t *testing.T) {
	for _, x := range []struct {
		s    string
		e    api.Errno
		name string
	}{
		{"for i 1 2 do a = i end", api.OK, ""}, {"for i 1 2 do end a = i", api.ErrName, "i"}, {"a = i for i 1 2 do end", api.ErrName, "i"}, {"for i 1 2 do end for i 1 2 do a = i end", api.OK, ""},
		{"for i 1 2 do for i 1 2 do end end", api.ErrTwice, "i"}, {"for i 1 2 do for j 1 2 do for i 1 2 do end end end", api.ErrTwice, "i"}, {"for i 1 2 do for j 1 2 do end a = j end", api.ErrName, "j"}, {"for i 1 2 do for j 1 2 do end a = i end", api.OK, ""},
		{"for i 1 2 do if i then a = i else b = i end end", api.OK, ""}, {"for i 1 2 do i = 1 end", api.ErrSort, "i"}, {"for i 1 2 do a = i [ 1 ] end", api.ErrSort, "i"}, {"for i 1 2 do i [ 1 ] = 1 end", api.ErrSort, "i"},
		{"for a 1 2 do end", api.ErrTwice, "a"}, {"for c 1 2 do end", api.ErrTwice, "c"}, {"if 1 then for i 1 2 do end else a = i end", api.ErrName, "i"},
	} {
		for part := range parts(&syntax.Program{}) {
			wantStatement(t, part, statements(t, x.s), x.e, x.name)
		}
	}
	wantStatement(t, "play", statements(t, "for n 1 2 do end"), api.ErrTwice, "n")
	wantStatement(t, "play", statements(t, "for who 1 2 do a = who end"), api.OK, "")
	wantStatement(t, "play", statements(t, "for i 1 2 do roll i 6 end"), api.ErrSort, "i")
	wantStatement(t, "silent", statements(t, "for who 1 2 do end"), api.ErrTwice, "who")
	wantStatement(t, "silent", statements(t, "for n 1 2 do a = n end"), api.OK, "")
	for _, x := range []struct {
		low, high int
		e         api.Errno
	}{
		{0, 63, api.OK}, {0, 64, api.ErrRange}, {-1, 63, api.ErrRange}, {-31, 32, api.OK}, {5, -5, api.OK}, {1<<31 - 1, -1 << 31, api.OK}, {-1 << 31, 1<<31 - 1, api.ErrRange}, {-1 << 31, -1<<31 + 63, api.OK}, {1<<31 - 64, 1<<31 - 1, api.OK},
		{-1<<31 - 1, 0, api.ErrRange}, {-1<<31 - 1, -1<<31 - 1, api.ErrRange}, {1 << 31, 0, api.ErrRange}, {1 << 31, 1 << 31, api.ErrRange}, {0, 1 << 31, api.ErrRange}, {1<<31 - 1, 1 << 31, api.ErrRange}, {0, -1<<31 - 1, api.ErrRange}, {math.MinInt, math.MaxInt, api.ErrRange}, {math.MaxInt, math.MinInt, api.ErrRange}, {math.MinInt, math.MinInt, api.ErrRange},
	} {
		wantStatement(t, "pay", []syntax.Stmt{{Kind: syntax.For, Name: "i", Low: x.low, High: x.high}}, x.e, map[api.Errno]string{api.ErrRange: "i"}[x.e])
	}
	for _, sides := range []int{math.MinInt, -1, 0, 1, 1001, math.MaxInt} {
		wantStatement(t, "play", []syntax.Stmt{{Kind: syntax.Roll, Name: "a", Low: sides}}, api.ErrRange, "a")
	}
	for _, sides := range []int{2, 3, 1000} {
		wantStatement(t, "play", []syntax.Stmt{{Kind: syntax.Roll, Name: "a", Low: sides}}, api.OK, "")
	}
}

// TestP121Deep: how deep fors and expressions may be.
func TestP121Deep(t *testing.T) {
	for part := range parts(&syntax.Program{}) {
		nested := statements(t, "a = 1")
		for n := 9; n >= 1; n-- {
			nested = []syntax.Stmt{{Kind: syntax.If, E: []syntax.Expr{num(1)}, L: []syntax.Stmt{{Kind: syntax.For, Name: "f" + strconv.Itoa(n), L: nested}}}}
		}
		p := parsed(t, well)
		at := parts(&p)[part]
		*at = append(nested, *at...)
		want(t, "nine fors", p, api.ErrDeep, "f9")
		p = parsed(t, well)
		at = parts(&p)[part]
		*at = append(slices.Repeat(nested[0].L[0].L, 2), *at...)
		want(t, "eight fors, twice", p, api.OK, "")
		e := num(1)
		for n := 1; n <= 14; n++ {
			want := api.OK
			if n > 12 {
				want = api.ErrDeep
			}
			wantStatement(t, part, []syntax.Stmt{{Kind: syntax.Put, Name: "c", E: []syntax.Expr{e, num(1)}}}, want, "")
			wantStatement(t, part, []syntax.Stmt{{Kind: syntax.Put, Name: "c", E: []syntax.Expr{num(1), e}}}, want, "")
			if n%2 == 0 {
				e = of(syntax.Neg, e)
			} else {
				e = of(syntax.Add, num(1), e)
			}
		}
	}
	many := slices.Repeat(statements(t, "for i 1 1 do end"), 9)
	wantStatement(t, "start", many, api.OK, "")
	ifs := statements(t, "a = 1")
	for range 100 {
		ifs = []syntax.Stmt{{Kind: syntax.If, E: []syntax.Expr{num(1)}, L: ifs}}
	}
	wantStatement(t, "start", ifs, api.OK, "")
}

// TestP121Numbers: which numbers may be.
func TestP121Numbers(t *testing.T) {
	for _, x := range []struct {
		n int
		e api.Errno
	}{{0, api.OK}, {-1, api.OK}, {-1 << 31, api.OK}, {1<<31 - 1, api.OK}, {-1<<31 - 1, api.ErrRange}, {1 << 31, api.ErrRange}, {math.MinInt, api.ErrRange}, {math.MaxInt, api.ErrRange}} {
		for _, e := range []syntax.Expr{num(x.n), of(syntax.Not, num(x.n)), index("c", num(x.n)), of(syntax.Lt, nam("a"), num(x.n))} {
			wantStatement(t, "turn", []syntax.Stmt{{Kind: syntax.Seat, E: []syntax.Expr{e}}}, x.e, "")
		}
	}
}

// TestP121Ends: a turn ends its way, and a pay with a rest.
func TestP121Ends(t *testing.T) {
	for s, ends := range map[string]bool{
		"": false, "a = 1": false, "over": true, "seat a": true, "over a = 1": true, "seat 1 over": true, "if a then over end": false, "if a then over else end": false, "if a then else over end": false, "if a then over else seat 1 end": true,
		"if a then over else seat 1 end a = 1": true, "if a then over end over": true, "if a then over end if a then else over end": false, "for i 1 1 do over end": false, "for i 1 1 do end seat 1": true,
		"if a then if b then over else over end else over end": true, "if a then if b then over else end else over end": false, "if a then over else a = 1 if b then over else a = 1 seat 1 end end": true, "if a then a = 1 over else for i 1 1 do over end end": false,
	} {
		e, name := api.ErrShort, "turn"
		if ends {
			e, name = api.OK, ""
		}
		wantChanged(t, s, func(p *syntax.Program) { p.Turn = statements(t, s) }, e, name)
	}
	for s, ends := range map[string]bool{"": false, "pay 1 1": false, "rest 1": true, "pay 1 1 rest 1": true, "if a then pay 1 1 end": false, "a = 1": false} {
		e, name := api.ErrShort, "pay"
		if ends {
			e, name = api.OK, ""
		}
		wantChanged(t, s, func(p *syntax.Program) { p.Pays = statements(t, s) }, e, name)
	}
}

// TestP121Order: of two things that are wrong the first one counts.
func TestP121Order(t *testing.T) {
	ahead := func(at *[]syntax.Stmt, l ...syntax.Stmt) { *at = append(l, *at...) }
	list := []struct {
		name   string // of the fault; "*": that of the program
		e      api.Errno
		change func(p *syntax.Program)
	}{
		{"1", api.ErrName, func(p *syntax.Program) { p.Name = "1" }},
		{"seats", api.ErrRange, func(p *syntax.Program) { p.Seats = 9 }},
		{"stake", api.ErrForm, func(p *syntax.Program) { p.Stakes = append(p.Stakes, 1) }},
		{"stake", api.ErrRange, func(p *syntax.Program) { p.Stakes[1] = 0 }},
		{"2", api.ErrName, func(p *syntax.Program) { p.Vars[0].Name = "2" }},
		{"a", api.ErrTwice, func(p *syntax.Program) { p.Vars[1].Name, p.Vars[1].Size = "a", -1 }},
		{"c", api.ErrRange, func(p *syntax.Program) { p.Vars[2].Size = 65 }},
		{"d", api.ErrRange, func(p *syntax.Program) { p.Vars = append(p.Vars, syntax.Var{Name: "d", Low: 1}) }},
		{"var", api.ErrFull, func(p *syntax.Program) { p.Vars = append(p.Vars, syntax.Var{Name: "e", Size: 64}) }},
		{"play", api.ErrFull, func(p *syntax.Program) { p.Params = append(p.Params, make([]syntax.Var, 3)...) }},
		{"3", api.ErrName, func(p *syntax.Program) { p.Params[0].Name = "3" }},
		{"b", api.ErrTwice, func(p *syntax.Program) { p.Params[1].Name = "b" }},
		{"m", api.ErrForm, func(p *syntax.Program) { p.Params[1].Size, p.Params[1].High = 1, -9 }},
		{"q", api.ErrRange, func(p *syntax.Program) { p.Params = append(p.Params, syntax.Var{Name: "q", Low: 1}) }},
		{"play", api.ErrFull, func(p *syntax.Program) { p.Params[0].High = 512 }},
		{"4", api.ErrName, func(p *syntax.Program) { p.Silent = "4" }},
		{"*", api.ErrLong, func(p *syntax.Program) { p.Start = append(p.Start, make([]syntax.Stmt, 1000)...) }},
		{"", api.ErrForm, func(p *syntax.Program) { ahead(&p.Start, syntax.Stmt{Kind: -1}) }},
		{"turn", api.ErrState, func(p *syntax.Program) { ahead(&p.Turn, syntax.Stmt{Kind: syntax.Refuse}) }},
		{"u", api.ErrName, func(p *syntax.Program) { ahead(&p.Play, syntax.Stmt{Kind: syntax.Roll, Name: "u"}) }},
		{"", api.ErrRange, func(p *syntax.Program) { p.Quiet[0].E[0].L[0] = num(1 << 31) }},
		{"a", api.ErrSort, func(p *syntax.Program) { p.Pays[0].E[1] = index("a", num(1)) }},
	}
	for i, x := range list {
		for j, y := range list[i:] {
			p := parsed(t, well)
			if j > 0 {
				y.change(&p)
			}
			x.change(&p)
			name := x.name
			if name == "*" {
				name = p.Name
			}
			want(t, strconv.Itoa(i)+" and "+strconv.Itoa(i+j), p, x.e, name)
		}
	}
	for i, x := range list {
		p := parsed(t, well)
		p.Turn, p.Pays = nil, nil
		if len(p.Start) > 0 && i < 18 {
			x.change(&p)
			want(t, "behind all of it", p, x.e, strings.Replace(x.name, "*", p.Name, 1))
		}
	}
	wantChanged(t, "both ends", func(p *syntax.Program) { p.Turn, p.Pays = nil, nil }, api.ErrShort, "turn")
}

// TestP121Statements: of statements the one that stands first counts, and of one what is asked first.
func TestP121Statements(t *testing.T) {
	deep := num(1 << 40)
	for range 12 {
		deep = of(syntax.Neg, deep)
	}
	bad := []syntax.Stmt{{Kind: syntax.Over}, {Kind: -1}}
	for i, x := range []struct {
		part string
		l    []syntax.Stmt
		e    api.Errno
		name string
	}{
		{"start", []syntax.Stmt{{Kind: syntax.Roll, Name: "u", E: make([]syntax.Expr, 1)}}, api.ErrForm, ""},
		{"start", []syntax.Stmt{{Kind: syntax.Roll, Name: "u"}}, api.ErrState, "start"},
		{"play", []syntax.Stmt{{Kind: syntax.Roll, Name: "u"}}, api.ErrName, "u"},
		{"play", []syntax.Stmt{{Kind: syntax.Roll, Name: "c"}}, api.ErrSort, "c"},
		{"play", []syntax.Stmt{{Kind: syntax.Roll, Name: "a"}, bad[1]}, api.ErrRange, "a"},
		{"start", []syntax.Stmt{{Kind: syntax.Assign, Name: "u", E: []syntax.Expr{deep}}}, api.ErrName, "u"},
		{"start", []syntax.Stmt{{Kind: syntax.Put, Name: "a", E: []syntax.Expr{deep, deep}}}, api.ErrSort, "a"},
		{"start", []syntax.Stmt{{Kind: syntax.Assign, Name: "a", E: []syntax.Expr{deep}}}, api.ErrDeep, ""},
		{"start", []syntax.Stmt{{Kind: syntax.Assign, Name: "a", E: []syntax.Expr{deep.L[0]}}}, api.ErrRange, ""},
		{"start", []syntax.Stmt{{Kind: syntax.Put, Name: "c", E: []syntax.Expr{num(1 << 40), deep}}}, api.ErrRange, ""},
		{"start", []syntax.Stmt{{Kind: syntax.Put, Name: "c", E: []syntax.Expr{of(syntax.Add, nam("u"), nam("v")), deep}}}, api.ErrName, "u"},
		{"start", []syntax.Stmt{{Kind: syntax.Put, Name: "c", E: []syntax.Expr{of(syntax.Add, num(1), nam("v")), deep}}}, api.ErrName, "v"},
		{"start", []syntax.Stmt{{Kind: syntax.Put, Name: "c", E: []syntax.Expr{deep, nam("u")}}}, api.ErrDeep, ""},
		{"start", []syntax.Stmt{{Kind: syntax.Assign, Name: "a", E: []syntax.Expr{of(18, deep)}}}, api.ErrDeep, ""},
		{"start", []syntax.Stmt{{Kind: syntax.Assign, Name: "a", E: []syntax.Expr{of(syntax.Neg, nam("u"), nam("u"))}}}, api.ErrForm, ""},
		{"start", []syntax.Stmt{{Kind: syntax.Assign, Name: "a", E: []syntax.Expr{index("u", nam("v"))}}}, api.ErrName, "u"},
		{"start", []syntax.Stmt{{Kind: syntax.Assign, Name: "a", E: []syntax.Expr{index("b", nam("v"))}}}, api.ErrSort, "b"},
		{"start", []syntax.Stmt{{Kind: syntax.Assign, Name: "a", E: []syntax.Expr{of(syntax.Or, of(syntax.Not, nam("u")), of(-1))}}}, api.ErrName, "u"},
		{"start", []syntax.Stmt{{Kind: syntax.For, Name: "1", High: 64, L: bad}}, api.ErrName, "1"},
		{"start", []syntax.Stmt{{Kind: syntax.For, Name: "a", High: 64, L: bad}}, api.ErrTwice, "a"},
		{"start", []syntax.Stmt{{Kind: syntax.For, Name: "i", High: 64, L: bad}}, api.ErrRange, "i"},
		{"start", []syntax.Stmt{{Kind: syntax.For, Name: "i", L: bad}, {Kind: -1}}, api.ErrState, "start"},
		{"start", []syntax.Stmt{{Kind: syntax.If, E: []syntax.Expr{nam("u")}, L: bad}}, api.ErrName, "u"},
		{"start", []syntax.Stmt{{Kind: syntax.If, E: []syntax.Expr{num(1)}, L: bad, Else: bad[1:]}}, api.ErrState, "start"},
		{"start", []syntax.Stmt{{Kind: syntax.If, E: []syntax.Expr{num(1)}, L: bad[1:], Else: bad}}, api.ErrForm, ""},
		{"start", []syntax.Stmt{{Kind: syntax.If, E: []syntax.Expr{num(1)}, Else: bad}, bad[1]}, api.ErrState, "start"},
		{"pay", []syntax.Stmt{{Kind: syntax.Rest, E: []syntax.Expr{nam("u")}}}, api.ErrState, "pay"},
		{"turn", []syntax.Stmt{{Kind: syntax.Seat, E: []syntax.Expr{nam("n")}}, {Kind: syntax.Pay, E: []syntax.Expr{nam("u"), num(1)}}}, api.ErrName, "n"},
		{"turn", []syntax.Stmt{{Kind: syntax.Pay, E: []syntax.Expr{nam("u"), num(1)}}, {Kind: -1}}, api.ErrState, "turn"},
	} {
		p := parsed(t, well)
		at := parts(&p)[x.part]
		*at = append(x.l, *at...)
		want(t, strconv.Itoa(i), p, x.e, x.name)
		wantStatement(t, x.part, x.l, x.e, x.name)
	}
	nine := []syntax.Stmt{{Kind: syntax.For, Name: "i9", High: 64}}
	for n := 8; n > 0; n-- {
		nine = []syntax.Stmt{{Kind: syntax.For, Name: "i" + strconv.Itoa(n), L: nine}}
	}
	wantChanged(t, "a range ahead of how deep", func(p *syntax.Program) { p.Play = nine }, api.ErrRange, "i9")
}
