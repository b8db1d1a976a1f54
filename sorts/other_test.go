package sorts_test

import (
	"fmt"
	"math"
	"math/big"
	"math/rand"
	"slices"
	"strconv"
	"testing"

	"baize/api"
	"baize/lex"
	"baize/sorts"
	"baize/syntax"
)

// The tests' own look at a program: it tells all that is wrong, in order, by
// the chapter's words, one row a rule; another one than the program's.
type look struct {
	p     syntax.Program
	found []sorts.Fault
	part  string
}

// tell notes a fault, if it is so.
func (l *look) tell(so bool, e api.Errno, name string) {
	if so {
		l.found = append(l.found, sorts.Fault{E: e, Name: name})
	}
}

// other tells the first of all that is wrong.
func other(p syntax.Program) sorts.Fault {
	l := &look{p: p}
	l.tell(!lex.IsName(p.Name), api.ErrName, p.Name)
	l.tell(p.Seats < 2 || p.Seats > 8, api.ErrRange, "seats")
	l.tell(len(p.Stakes) != p.Seats, api.ErrForm, "stake")
	for _, s := range p.Stakes {
		l.tell(s < 1 || s > math.MaxInt32, api.ErrRange, "stake")
	}
	total := 0
	for i, v := range p.Vars {
		l.tell(!lex.IsName(v.Name), api.ErrName, v.Name)
		l.tell(l.isVar(v.Name, i), api.ErrTwice, v.Name)
		l.tell(v.Size < 0 || v.Size > 64 || v.Low < math.MinInt32 || v.Low > v.High || v.High > math.MaxInt32, api.ErrRange, v.Name)
		if v.Size < 1 || v.Size > 64 {
			total++
		} else {
			total += v.Size
		}
	}
	l.tell(total > 64, api.ErrFull, "var")
	l.tell(len(p.Params) > 4, api.ErrFull, "play")
	menu := big.NewInt(1)
	for i, v := range p.Params {
		l.tell(!lex.IsName(v.Name), api.ErrName, v.Name)
		l.tell(l.isVar(v.Name, len(p.Vars)) || slices.ContainsFunc(p.Params[:i], func(o syntax.Var) bool { return o.Name == v.Name }), api.ErrTwice, v.Name)
		l.tell(v.Size != 0, api.ErrForm, v.Name)
		l.tell(v.Low < math.MinInt32 || v.Low > v.High || v.High > math.MaxInt32, api.ErrRange, v.Name)
		menu.Mul(menu, big.NewInt(int64(v.High)-int64(v.Low)+1))
	}
	l.tell(menu.Cmp(big.NewInt(512)) > 0, api.ErrFull, "play")
	l.tell(!lex.IsName(p.Silent), api.ErrName, p.Silent)
	l.tell(l.isVar(p.Silent, len(p.Vars)), api.ErrTwice, p.Silent)
	l.tell(syntax.Size(p) > 1000, api.ErrLong, p.Name)
	if len(l.found) == 0 {
		l.parts()
	}
	return append(l.found, sorts.Fault{})[0]
}

// isVar tells whether one of the first variables has a name.
func (l *look) isVar(name string, first int) bool {
	return slices.ContainsFunc(l.p.Vars[:first], func(v syntax.Var) bool { return v.Name == name })
}

func (l *look) parts() {
	p := l.p
	var params []string
	for _, v := range p.Params {
		params = append(params, v.Name)
	}
	for _, x := range []struct {
		name  string
		l     []syntax.Stmt
		known []string
	}{{"start", p.Start, nil}, {"turn", p.Turn, nil}, {"play", p.Play, params}, {"silent", p.Quiet, []string{p.Silent}}, {"pay", p.Pays, nil}} {
		l.part = x.name
		for i, s := range x.l {
			if s.Kind == syntax.Rest && x.name == "pay" && i < len(x.l)-1 {
				l.tell(len(s.E) != 1, api.ErrForm, "")
				l.tell(true, api.ErrState, "pay")
			}
			l.stmt(s, x.known, 0, true)
		}
	}
	l.tell(!ends(p.Turn), api.ErrShort, "turn")
	l.tell(len(p.Pays) == 0 || p.Pays[len(p.Pays)-1].Kind != syntax.Rest, api.ErrShort, "pay")
}

func ends(l []syntax.Stmt) bool {
	for _, s := range l {
		switch s.Kind {
		case syntax.Seat, syntax.Over:
			return true
		case syntax.If:
			if ends(s.L) && ends(s.Else) {
				return true
			}
		}
	}
	return false
}

// stands tells what a name is, with these known beside the variables: nothing, "plain", "list", or "read".
func (l *look) stands(name string, known []string) string {
	if slices.Contains(known, name) {
		return "read"
	}
	for _, v := range l.p.Vars {
		if v.Name == name && v.Size > 0 {
			return "list"
		} else if v.Name == name {
			return "plain"
		}
	}
	return ""
}

func (l *look) stmt(s syntax.Stmt, known []string, fors int, top bool) {
	counts := []int{1, 2, 1, 0, 0, 0, 1, 0, 2, 1}
	if s.Kind < 0 || s.Kind > 9 || counts[s.Kind] != len(s.E) {
		l.tell(true, api.ErrForm, "")
		return
	}
	only := map[int]string{syntax.Refuse: "play", syntax.Roll: "play", syntax.Seat: "turn", syntax.Over: "turn", syntax.Pay: "pay", syntax.Rest: "pay"}[s.Kind]
	l.tell(only != "" && only != l.part || s.Kind == syntax.Rest && !top, api.ErrState, l.part)
	is := l.stands(s.Name, known)
	switch s.Kind {
	case syntax.Assign, syntax.Roll:
		l.tell(is == "", api.ErrName, s.Name)
		l.tell(is != "plain", api.ErrSort, s.Name)
		l.tell(s.Kind == syntax.Roll && (s.Low < 2 || s.Low > 1000), api.ErrRange, s.Name)
	case syntax.Put:
		l.tell(is == "", api.ErrName, s.Name)
		l.tell(is != "list", api.ErrSort, s.Name)
	case syntax.For:
		l.tell(!lex.IsName(s.Name), api.ErrName, s.Name)
		l.tell(is != "", api.ErrTwice, s.Name)
		above := new(big.Int).Sub(big.NewInt(int64(s.High)), big.NewInt(int64(s.Low)))
		l.tell(int(int32(s.Low)) != s.Low || int(int32(s.High)) != s.High || above.Cmp(big.NewInt(63)) > 0, api.ErrRange, s.Name)
		l.tell(fors >= 8, api.ErrDeep, s.Name)
		known, fors = append(slices.Clone(known), s.Name), fors+1
	}
	for _, e := range s.E {
		l.tell(syntax.Deep(e) > 12, api.ErrDeep, "")
		l.expr(e, known)
	}
	if s.Kind == syntax.If || s.Kind == syntax.For {
		for _, x := range s.L {
			l.stmt(x, known, fors, false)
		}
	}
	if s.Kind == syntax.If {
		for _, x := range s.Else {
			l.stmt(x, known, fors, false)
		}
	}
}

func (l *look) expr(e syntax.Expr, known []string) {
	count := map[int]int{syntax.Number: 0, syntax.Name: 0, syntax.Index: 1, syntax.Neg: 1, syntax.Not: 1}
	want, few := count[e.Op]
	if !few {
		want = 2
	}
	if e.Op < 0 || e.Op > syntax.Or || len(e.L) != want {
		l.tell(true, api.ErrForm, "")
		return
	}
	if e.Op == syntax.Number {
		l.tell(int(int32(e.N)) != e.N, api.ErrRange, "")
	}
	if is := l.stands(e.Name, known); e.Op == syntax.Name || e.Op == syntax.Index {
		l.tell(is == "", api.ErrName, e.Name)
		l.tell((is == "list") != (e.Op == syntax.Index), api.ErrSort, e.Name)
	}
	for _, x := range e.L {
		l.expr(x, known)
	}
}

// maker makes programs by chance, most of which nearly may be.
type maker struct{ *rand.Rand }

func pick[T any](m maker, l ...T) T {
	return l[m.Intn(len(l))]
}

// rarely is true once in so many times.
func (m maker) rarely() bool {
	return m.Intn(150) == 0
}

func (m maker) expr(deep int) syntax.Expr {
	if m.rarely() {
		return pick(m, syntax.Expr{}, num(1<<31), of(18), of(syntax.Neg), of(syntax.Number, num(1)), nam("c"), nam("u"), index("a", num(1)), of(-1, num(1), num(2)))
	}
	if deep <= 0 {
		return pick(m, num(m.Intn(9)-4), nam(pick(m, "a", "b")))
	}
	op := m.Intn(18)
	switch {
	case op == syntax.Number:
		return num(m.Intn(9) - 4)
	case op == syntax.Name:
		if m.Intn(6) == 0 {
			return nam(pick(m, "n", "who", "i", "j"))
		}
		return nam(pick(m, "a", "b"))
	case op == syntax.Index:
		return index("c", m.expr(deep-1))
	case op == syntax.Neg, op == syntax.Not:
		return of(op, m.expr(deep-1))
	}
	return of(op, m.expr(deep-1), m.expr(deep-1))
}

func (m maker) block(part string, deep int) []syntax.Stmt {
	var l []syntax.Stmt
	for range m.Intn(3) {
		kinds := []int{syntax.Assign, syntax.Put, syntax.If, syntax.For}
		kinds = append(kinds, map[string][]int{"turn": {syntax.Seat, syntax.Over}, "play": {syntax.Refuse, syntax.Roll}, "pay": {syntax.Pay}}[part]...)
		s := syntax.Stmt{Kind: pick(m, kinds...), Low: 2, High: 4}
		if m.rarely() {
			s.Kind = m.Intn(14) - 2
		}
		switch s.Kind {
		case syntax.Assign, syntax.Seat, syntax.Rest, syntax.If:
			s.E = []syntax.Expr{m.expr(m.Intn(3))}
		case syntax.Put, syntax.Pay:
			s.E = []syntax.Expr{m.expr(m.Intn(3)), m.expr(1)}
		}
		s.Name = map[int]string{syntax.Assign: "a", syntax.Roll: "b", syntax.Put: "c", syntax.For: "i"}[s.Kind]
		if s.Kind == syntax.For && m.Intn(3) > 0 {
			s.Name = pick(m, "i", "j", "k", "l", "m1", "m2", "m3")
		}
		if m.rarely() {
			s.Name = pick(m, "a", "c", "n", "who", "i", "1", "u")
		}
		if m.rarely() {
			s.Low = pick(m, 1, 1001, -60, 1<<31)
		}
		if (s.Kind == syntax.If || s.Kind == syntax.For) && deep > 0 {
			s.L = m.block(part, deep-1)
			if s.Kind == syntax.If || m.rarely() {
				s.Else = m.block(part, deep-1)
			}
		}
		l = append(l, s)
	}
	return l
}

func (m maker) program() syntax.Program {
	p := syntax.Program{Name: "g", Seats: 2, Stakes: []int{1, 2}, Silent: "who"}
	p.Vars = []syntax.Var{{Name: "a", High: 9}, {Name: "b", Low: -1}, {Name: "c", Size: 1 + m.Intn(62)}}
	if m.Intn(2) == 0 {
		p.Params = []syntax.Var{{Name: "n", High: m.Intn(500)}}
	}
	if m.rarely() {
		p.Params = append(p.Params, syntax.Var{Name: "m", High: m.Intn(4) - 1, Size: m.Intn(2)})
	}
	if m.rarely() {
		p.Vars = append(p.Vars, syntax.Var{Name: pick(m, "i", "j", "n", "who", "a"), Size: m.Intn(3)})
	}
	p.Start, p.Turn, p.Play, p.Quiet, p.Pays = m.block("start", 3), m.block("turn", 3), m.block("play", 3), m.block("silent", 3), m.block("pay", 3)
	p.Turn = append(p.Turn, syntax.Stmt{Kind: syntax.Over})
	if !m.rarely() {
		p.Pays = append(p.Pays, syntax.Stmt{Kind: syntax.Rest, E: []syntax.Expr{num(0)}})
	}
	return p
}

// TestP121Other: of programs by chance the tests' own look says the same.
func TestP121Other(t *testing.T) {
	m := maker{rand.New(rand.NewSource(121))}
	counts := map[sorts.Fault]int{}
	for range 20000 {
		p := m.program()
		f := sorts.Check(p)
		if o := other(p); f != o {
			t.Fatalf("%+v: %v, want %v", p, f, o)
		}
		counts[f]++
	}
	if counts[sorts.Fault{}] < 2000 || len(counts) < 30 {
		t.Error(counts)
	}
}

// TestP122Cells: how many cells there are, and at which one a variable begins.
func TestP122Cells(t *testing.T) {
	cell := func(p syntax.Program, name string, want int, v syntax.Var, is bool) {
		t.Helper()
		if n, got, ok := sorts.Cell(p, name); n != want || got != v || ok != is {
			t.Errorf("%s: %d, %v, %v; want %d, %v, %v", name, n, got, ok, want, v, is)
		}
	}
	cells := func(p syntax.Program, want int) {
		t.Helper()
		if n := sorts.Cells(p); n != want {
			t.Errorf("%v: %d, want %d", p.Vars, n, want)
		}
	}
	var p syntax.Program
	cells(p, 0)
	cell(p, "a", 0, syntax.Var{}, false)
	cell(p, "", 0, syntax.Var{}, false)
	p.Vars = []syntax.Var{{Name: "a", Low: 1, High: 2}, {Name: "b", Size: 3}, {Name: "c", Size: 1}, {Name: "d", Size: 64}, {Name: "e"}}
	cells(p, 1+3+1+64+1)
	for i, want := range []int{0, 1, 4, 5, 69} {
		cell(p, p.Vars[i].Name, want, p.Vars[i], true)
	}
	cell(p, "f", 0, syntax.Var{}, false)
	cell(p, "", 0, syntax.Var{}, false)
	p.Params, p.Silent = []syntax.Var{{Name: "n"}}, "s"
	cell(p, "n", 0, syntax.Var{}, false)
	cell(p, "s", 0, syntax.Var{}, false)
	p.Vars = []syntax.Var{{Name: "a", Size: -1}, {Name: "b", Size: 65}, {Name: "c", Size: math.MaxInt}, {Name: "d", Size: math.MinInt, Low: 7}, {Name: "", Size: 2}, {Name: "a", Size: 9}, {Name: "z"}}
	cells(p, 4+2+9+1)
	for i, want := range []int{0, 1, 2, 3, 4} {
		cell(p, p.Vars[i].Name, want, p.Vars[i], true)
	}
	cell(p, "z", 15, syntax.Var{Name: "z"}, true)
}

// TestP122Menu: how many moves a play has.
func TestP122Menu(t *testing.T) {
	v := func(low, high int) syntax.Var { return syntax.Var{Low: low, High: high} }
	all := v(math.MinInt, math.MaxInt)
	for _, x := range []struct {
		l    []syntax.Var
		want int
	}{
		{nil, 1}, {[]syntax.Var{v(0, 0)}, 1}, {[]syntax.Var{v(5, 7)}, 3}, {[]syntax.Var{v(-2, 2), v(1, 4)}, 20}, {[]syntax.Var{v(1, 0)}, 0}, {[]syntax.Var{v(0, 511)}, 512}, {[]syntax.Var{v(0, 512)}, 513}, {[]syntax.Var{v(0, 513)}, 513}, {[]syntax.Var{v(1, 1000)}, 513},
		{[]syntax.Var{all}, 513}, {[]syntax.Var{all, all, all, all, all}, 513}, {[]syntax.Var{v(math.MaxInt, math.MinInt)}, 0}, {[]syntax.Var{all, v(1, 0)}, 0}, {[]syntax.Var{v(1, 0), all}, 0}, {[]syntax.Var{all, v(3, 2), all}, 0}, {[]syntax.Var{v(math.MinInt, math.MinInt), v(math.MaxInt, math.MaxInt)}, 1},
		{[]syntax.Var{v(0, 1), v(0, 1), v(0, 1), v(0, 1), v(0, 1), v(0, 1), v(0, 1), v(0, 1), v(0, 1)}, 512}, {[]syntax.Var{v(0, 22), v(0, 22)}, 513}, {[]syntax.Var{v(-1, 511)}, 513}, {[]syntax.Var{{Size: 9, High: 1}, {Size: -9, High: 1}}, 4}, {[]syntax.Var{v(math.MinInt, 0)}, 513}, {[]syntax.Var{v(0, math.MaxInt)}, 513}, {[]syntax.Var{v(-1, math.MaxInt)}, 513},
	} {
		if n := sorts.Menu(syntax.Program{Params: x.l}); n != x.want {
			t.Errorf("%v: %d, want %d", x.l, n, x.want)
		}
	}
}

// TestP123: what is handed in isn't changed, and not kept.
func TestP123(t *testing.T) {
	p := parsed(t, well)
	was := fmt.Sprintf("%#v", p)
	for range 2 {
		want(t, "well", p, api.OK, "")
		sorts.Cells(p)
		sorts.Cell(p, "c")
		sorts.Menu(p)
	}
	if is := fmt.Sprintf("%#v", p); is != was {
		t.Errorf("%s; was %s", is, was)
	}
	p.Vars[0].Name = "aa"
	want(t, "another name", p, api.ErrName, "a")
	p.Vars[0].Name = "a"
	want(t, "the name again", p, api.OK, "")
	p.Start[1].Name = "d"
	want(t, "another for's name", p, api.ErrName, "i")
	p.Start[1].Name = "i"
	want(t, "the for's name again", p, api.OK, "")
}

// TestR1: whatever a program is, there is an answer.
func TestR1(t *testing.T) {
	m := maker{rand.New(rand.NewSource(112))}
	for range 3000 {
		p := m.program()
		p.Name, p.Seats, p.Stakes = pick(m, "", "g", "if"), pick(m, math.MinInt, 1, 2, math.MaxInt), make([]int, m.Intn(4))
		if f := sorts.Check(p); f != other(p) {
			t.Errorf("%+v: %v", p, f)
		}
	}
	nested, deep := []syntax.Stmt{{Kind: syntax.Over}}, num(1)
	for range 1 << 16 {
		nested = []syntax.Stmt{{Kind: syntax.If, E: []syntax.Expr{num(1)}, L: nested}}
		deep = of(syntax.Neg, deep)
	}
	for _, l := range [][]syntax.Stmt{nested, {{Kind: syntax.Seat, E: []syntax.Expr{deep}}}, make([]syntax.Stmt, 1<<16)} {
		wantChanged(t, "a great one", func(p *syntax.Program) { p.Turn = l }, api.ErrLong, "tic")
	}
	wantChanged(t, "many variables", func(p *syntax.Program) {
		for i := range 1 << 12 {
			p.Vars = append(p.Vars, syntax.Var{Name: "v" + strconv.Itoa(i), Size: 64})
		}
	}, api.ErrFull, "var")
	if f := sorts.Check(syntax.Program{}); f != (sorts.Fault{E: api.ErrName}) {
		t.Error(f)
	}
}

// TestR3: a list of nothing is as no list.
func TestR3(t *testing.T) {
	none := []syntax.Stmt{}
	wantChanged(t, "no lists", func(p *syntax.Program) {
		p.Params, p.Start, p.Play, p.Quiet = []syntax.Var{}, none, none, none
		p.Turn = []syntax.Stmt{{Kind: syntax.Over, E: []syntax.Expr{}, L: none, Else: none}}
	}, api.OK, "")
	wantChanged(t, "an empty else", func(p *syntax.Program) { p.Turn[0].Else = none }, api.ErrShort, "turn")
}
