package compile_test

import (
	"math/rand"
	"slices"
	"testing"

	"baize/api"
	"baize/compile"
	"baize/machine"
	"baize/sorts"
	"baize/syntax"
)

// other is another look at what rules mean: it goes through the tree itself,
// by the chapter's words, and knows nothing of the machine.
type other struct {
	p     syntax.Program
	cells []int32
	reads map[string]int64 // names that are no variables
	out   compile.Out
	over  bool
}

// round gives a number modulo 2^32, from -2^31 on.
func round(n int64) int64 {
	n = (n%(1<<32) + 1<<32) % (1 << 32)
	if n >= 1<<31 {
		n -= 1 << 32
	}
	return n
}

// cut gives a number, or the next one from low to high.
func cut(n, low, high int64) int64 {
	switch {
	case n < low:
		return low
	case n > high:
		return high
	}
	return n
}

func bit(so bool) int64 {
	if so {
		return 1
	}
	return 0
}

// cell gives the cell of a name's list, or none.
func (o *other) cell(name string, at int64) (*int32, syntax.Var) {
	first, v, is := sorts.Cell(o.p, name)
	if !is || at < 0 || at >= int64(max(v.Size, 1)) {
		return nil, v
	}
	return &o.cells[first+int(at)], v
}

func (o *other) value(e syntax.Expr) int64 {
	switch e.Op {
	case syntax.Number:
		return int64(e.N)
	case syntax.Name:
		if n, is := o.reads[e.Name]; is {
			return n
		}
		cell, _ := o.cell(e.Name, 0)
		return int64(*cell)
	case syntax.Index:
		if cell, _ := o.cell(e.Name, o.value(e.L[0])); cell != nil {
			return int64(*cell)
		}
		return 0
	case syntax.Neg:
		return round(0 - o.value(e.L[0]))
	case syntax.Not:
		return bit(o.value(e.L[0]) == 0)
	}
	a, b := o.value(e.L[0]), o.value(e.L[1])
	quotient := int64(0)
	if b != 0 {
		quotient = round(a / b)
	}
	switch e.Op {
	case syntax.Mul:
		return round(a * b)
	case syntax.Div:
		return quotient
	case syntax.Rem:
		if b == 0 {
			return 0
		}
		return round(a - a/b*b)
	case syntax.Add:
		return round(a + b)
	case syntax.Sub:
		return round(a - b)
	case syntax.And:
		return bit(a != 0 && b != 0)
	case syntax.Or:
		return bit(a != 0 || b != 0)
	}
	return bit(map[int]bool{syntax.Eq: a == b, syntax.Ne: a != b, syntax.Lt: a < b, syntax.Le: a <= b, syntax.Gt: a > b, syntax.Ge: a >= b}[e.Op])
}

// put cuts a value into a variable's range, and lays it into a cell, if there is one.
func put(cell *int32, v syntax.Var, value int64) {
	if cell != nil {
		*cell = int32(cut(value, int64(v.Low), int64(v.High)))
	}
}

// payee gives the seat that a value tells; 0, if it tells none.
func (o *other) payee(e syntax.Expr) int {
	n := o.value(e)
	if n < 0 || n >= int64(o.p.Seats) {
		return 0
	}
	return int(n)
}

func (o *other) block(l []syntax.Stmt) {
	for _, s := range l {
		if o.over {
			return
		}
		o.stmt(s)
	}
}

func (o *other) stmt(s syntax.Stmt) {
	switch s.Kind {
	case syntax.Assign:
		cell, v := o.cell(s.Name, 0)
		put(cell, v, o.value(s.E[0]))
	case syntax.Put:
		cell, v := o.cell(s.Name, o.value(s.E[0]))
		put(cell, v, o.value(s.E[1]))
	case syntax.If:
		if o.value(s.E[0]) != 0 {
			o.block(s.L)
		} else {
			o.block(s.Else)
		}
	case syntax.For:
		for n := int64(s.Low); n <= int64(s.High) && !o.over; n++ {
			o.reads[s.Name] = n
			o.block(s.L)
		}
		delete(o.reads, s.Name)
	case syntax.Refuse:
		o.out.Refused, o.over = true, true
	case syntax.Roll:
		first, _, _ := sorts.Cell(o.p, s.Name)
		o.out.Cell, o.out.Sides = first, s.Low
	case syntax.Seat:
		o.out.Seat, o.over = int(o.value(s.E[0])), true
	case syntax.Over:
		o.out.Seat, o.over = -1, true
	case syntax.Pay:
		who, more := o.payee(s.E[0]), cut(o.value(s.E[1]), 0, 1<<30-1)
		o.out.Asks[who] = int32(cut(int64(o.out.Asks[who])+more, 0, 1<<30-1))
	case syntax.Rest:
		o.out.Rest = o.payee(s.E[0])
	}
}

// look gives what a part comes to, by the other look.
func look(p syntax.Program, part int, cells, args []int32) compile.Out {
	o := &other{p: p, cells: slices.Clone(cells), reads: map[string]int64{}}
	if part == compile.Start {
		for _, v := range p.Vars {
			for range max(v.Size, 1) {
				o.cells = append(o.cells, int32(cut(0, int64(v.Low), int64(v.High))))
			}
		}
	}
	if part == compile.Play {
		for i, v := range p.Params {
			o.reads[v.Name] = int64(args[i])
		}
	}
	if part == compile.Silent {
		o.reads[p.Silent] = int64(args[0])
	}
	if part == compile.Pay {
		o.out.Asks = make([]int32, p.Seats)
	}
	o.block([][]syntax.Stmt{p.Start, p.Turn, p.Play, p.Quiet, p.Pays}[part])
	if o.out.Refused {
		return compile.Out{Refused: true}
	}
	if part != compile.Turn && part != compile.Pay {
		o.out.Vars = o.cells
	}
	return o.out
}

// hold holds a part of a code against the other look, step by step; and gives how many steps it took.
func hold(t *testing.T, p syntax.Program, c *compile.Code, part int, cells, args []int32) int {
	t.Helper()
	want := look(p, part, cells, args)
	out, err := c.Run(part, cells, args)
	if err != api.OK || told(out) != told(want) {
		t.Fatalf("%+v\npart %d of %v, %v: %s, %s; want %s", p, part, cells, args, told(out), err.Word(), told(want))
	}
	first, err := c.State(part, cells, args)
	if err != api.OK || !first.Right() || first.Halt != machine.Runs || len(first.Mem) != c.Words() {
		t.Fatalf("%+v\npart %d: %v, %s", p, part, first, err.Word())
	}
	last, steps, over := machine.Run(c.Instrs(part), first, c.Most(part))
	if !over || steps > c.Most(part) || (last.Halt == machine.Refused) != want.Refused {
		t.Fatalf("%+v\npart %d: %d steps of %d, %v", p, part, steps, c.Most(part), last)
	}
	if out, err := c.Out(part, last); err != api.OK || told(out) != told(want) {
		t.Fatalf("%+v\npart %d: %s, %s; want %s", p, part, told(out), err.Word(), told(want))
	}
	for i, v := range ranges(p, out.Vars) {
		if len(cells) == len(out.Vars) && (cells[i] < v[0] || cells[i] > v[1]) {
			continue // it was beyond at first
		}
		if out.Vars[i] < v[0] || out.Vars[i] > v[1] {
			t.Fatalf("%+v\npart %d of %v: cell %d of %v", p, part, cells, i, out.Vars)
		}
	}
	return steps
}

// ranges gives those of cells, if there are any.
func ranges(p syntax.Program, cells []int32) [][2]int32 {
	var l [][2]int32
	for _, v := range p.Vars {
		for range max(v.Size, 1) {
			l = append(l, [2]int32{int32(v.Low), int32(v.High)})
		}
	}
	return l[:len(cells)]
}

// maker makes rules that may be, by chance.
type maker struct {
	*rand.Rand
	p     syntax.Program
	part  int
	names []string // what can be read, but variables
	fors  int
}

var numbers = []int{least, least + 1, -65536, -1000, -7, -3, -2, -1, 0, 0, 0, 1, 1, 1, 2, 2, 3, 4, 5, 7, 1000, 65536, 1<<30 - 2, 1<<30 - 1, 1 << 30, great - 1, great}

func (m *maker) number() int { return numbers[m.Intn(len(numbers))] }

// span gives a Low and a High.
func (m *maker) span() (int, int) {
	if m.Intn(3) == 0 {
		return 0, m.Intn(8)
	}
	a, b := m.number(), m.number()
	return min(a, b), max(a, b)
}

// list gives a variable, one with cells of its own, or one without.
func (m *maker) variable(list bool) syntax.Var {
	for {
		if v := m.p.Vars[m.Intn(len(m.p.Vars))]; v.Size > 0 == list {
			return v
		}
	}
}

func (m *maker) expr(deep int) syntax.Expr {
	op := m.Intn(18)
	if deep == 0 || m.Intn(6) == 0 {
		op = m.Intn(2)
	}
	e := syntax.Expr{Op: op}
	switch {
	case op == syntax.Number:
		e.N = m.number()
	case op == syntax.Name:
		e.Name = m.variable(false).Name
		if len(m.names) > 0 && m.Intn(2) == 0 {
			e.Name = m.names[m.Intn(len(m.names))]
		}
	case op <= syntax.Not:
		e.L = []syntax.Expr{m.expr(deep - 1)}
		if op == syntax.Index {
			e.Name = m.variable(true).Name
		}
	default:
		e.L = []syntax.Expr{m.expr(deep - 1), m.expr(deep - 1)}
	}
	return e
}

func (m *maker) exprs(n int) []syntax.Expr {
	var l []syntax.Expr
	for range n {
		l = append(l, m.expr(m.Intn(4)))
	}
	return l
}

func (m *maker) stmt(deep int) syntax.Stmt {
	kinds := []int{syntax.Assign, syntax.Assign, syntax.Put}
	if deep > 0 {
		kinds = append(kinds, syntax.If, syntax.For)
	}
	kinds = append(kinds, [][]int{nil, {syntax.Seat, syntax.Over}, {syntax.Refuse, syntax.Roll}, nil, {syntax.Pay, syntax.Pay}}[m.part]...)
	s := syntax.Stmt{Kind: kinds[m.Intn(len(kinds))]}
	switch s.Kind {
	case syntax.Assign:
		s.Name, s.E = m.variable(false).Name, m.exprs(1)
	case syntax.Put:
		s.Name, s.E = m.variable(true).Name, m.exprs(2)
	case syntax.If:
		s.E, s.L = m.exprs(1), m.block(deep-1)
		if m.Intn(2) == 0 {
			s.Else = m.block(deep - 1)
		}
	case syntax.For:
		s.Name = "i" + string(rune('0'+m.fors))
		s.Low = m.number()
		s.High = min(max(s.Low+m.Intn(6)-1, least), great)
		m.fors++
		m.names = append(m.names, s.Name)
		s.L = m.block(deep - 1)
		m.names = m.names[:len(m.names)-1]
		m.fors--
	case syntax.Roll:
		s.Name, s.Low = m.variable(false).Name, 2+m.Intn(999)
	case syntax.Seat:
		s.E = m.exprs(1)
	case syntax.Pay:
		s.E = m.exprs(2)
	}
	return s
}

func (m *maker) block(deep int) []syntax.Stmt {
	var l []syntax.Stmt
	for range m.Intn(4) {
		l = append(l, m.stmt(deep))
	}
	return l
}

func (m *maker) program() syntax.Program {
	m.p = syntax.Program{Name: "g", Seats: 2 + m.Intn(7), Silent: "who", Vars: []syntax.Var{{Name: "a"}, {Name: "l", Size: 1 + m.Intn(5)}}}
	for range m.p.Seats {
		m.p.Stakes = append(m.p.Stakes, 1)
	}
	for i := range m.Intn(4) {
		m.p.Vars = append(m.p.Vars, syntax.Var{Name: "v" + string(rune('0'+i)), Size: m.Intn(2) * m.Intn(4)})
	}
	for i := range m.p.Vars {
		m.p.Vars[i].Low, m.p.Vars[i].High = m.span()
	}
	for i := range m.Intn(5) {
		low := min(m.number(), great-4)
		m.p.Params = append(m.p.Params, syntax.Var{Name: "p" + string(rune('0'+i)), Low: low, High: low + m.Intn(4)})
	}
	for part, l := range []*[]syntax.Stmt{&m.p.Start, &m.p.Turn, &m.p.Play, &m.p.Quiet, &m.p.Pays} {
		m.part, m.names = part, nil
		switch part {
		case compile.Play:
			for _, v := range m.p.Params {
				m.names = append(m.names, v.Name)
			}
		case compile.Silent:
			m.names = []string{"who"}
		}
		*l = m.block(3)
		switch part {
		case compile.Turn:
			*l = append(*l, syntax.Stmt{Kind: syntax.Seat, E: m.exprs(1)})
		case compile.Pay:
			*l = append(*l, syntax.Stmt{Kind: syntax.Rest, E: m.exprs(1)})
		}
	}
	return m.p
}

// cells gives some, within their ranges, or wherever.
func (m *maker) cells() []int32 {
	var l []int32
	within := m.Intn(2) == 0
	for _, v := range m.p.Vars {
		for range max(v.Size, 1) {
			n := m.number()
			if within {
				n = min(max(n, v.Low), v.High)
			}
			l = append(l, int32(n))
		}
	}
	return l
}

// args gives some of a part.
func (m *maker) args(part int) []int32 {
	var l []int32
	switch part {
	case compile.Play:
		for _, v := range m.p.Params {
			l = append(l, int32(v.Low+m.Intn(v.High-v.Low+1)))
		}
	case compile.Silent:
		l = append(l, int32(m.number()))
	}
	return l
}

// TestP164Other: whatever the rules, the machine comes to what they mean, in no more steps than their form says; and cells that are within their ranges stay so (P16.2 to P16.4, T8).
func TestP164Other(t *testing.T) {
	m := &maker{Rand: rand.New(rand.NewSource(16))}
	var ran, refused, rolled, asked int
	for range 6000 {
		p := m.program()
		c, err := compile.Compile(p)
		if err != api.OK {
			if err != api.ErrLong && err != api.ErrFuel {
				t.Fatalf("%+v: %s, %v", p, err.Word(), sorts.Check(p))
			}
			continue
		}
		for part := range compile.Parts {
			for range 4 {
				var cells []int32
				if part != compile.Start {
					cells = m.cells()
				}
				args := m.args(part)
				hold(t, p, c, part, cells, args)
				out, _ := c.Run(part, cells, args)
				again, _ := c.Run(part, cells, args)
				if told(out) != told(again) {
					t.Fatal("run again it comes to something else")
				}
				ran++
				refused += int(bit(out.Refused))
				rolled += int(bit(out.Sides > 0))
				asked += int(bit(part == compile.Pay && slices.Max(out.Asks) > 0))
			}
		}
	}
	if ran < 50000 || refused < 1000 || rolled < 1000 || asked < 1000 {
		t.Error(ran, refused, rolled, asked)
	}
}

// wild gives an expression that may be nothing at all.
func (m *maker) wild(deep int) syntax.Expr {
	e := syntax.Expr{Op: m.Intn(20) - 1, N: m.number() * (1 + m.Intn(3)), Name: []string{"a", "l", "who", "", "x y"}[m.Intn(5)]}
	for range m.Intn(3) {
		if deep > 0 {
			e.L = append(e.L, m.wild(deep-1))
		}
	}
	return e
}

// wilds gives statements likewise.
func (m *maker) wilds(deep int) []syntax.Stmt {
	var l []syntax.Stmt
	for range m.Intn(3) {
		s := syntax.Stmt{Kind: m.Intn(12) - 1, Name: []string{"a", "l", "who", "i", ""}[m.Intn(5)], Low: m.number(), High: m.number()}
		for range m.Intn(3) {
			s.E = append(s.E, m.wild(2))
		}
		if deep > 0 {
			s.L, s.Else = m.wilds(deep-1), m.wilds(deep-1)
		}
		l = append(l, s)
	}
	return l
}

// TestR1: whatever the program, it has code or an error, and whatever code is run on, it ends.
func TestR1(t *testing.T) {
	m := &maker{Rand: rand.New(rand.NewSource(1))}
	codes := 0
	for n := range 20000 {
		p := m.program()
		parts := []*[]syntax.Stmt{&p.Start, &p.Turn, &p.Play, &p.Quiet, &p.Pays}
		part := parts[m.Intn(len(parts))]
		*part = slices.Insert(*part, 0, m.wilds(2)...)
		if n%10 == 0 {
			p.Seats, p.Vars[0].Size, p.Vars[1].Low = m.number(), m.number(), m.number()
		}
		c, err := compile.Compile(p)
		if (c == nil) != (err != api.OK) {
			t.Fatalf("%+v: %v, %s", p, c != nil, err.Word())
		}
		if c == nil {
			continue
		}
		codes++
		for part := -1; part <= compile.Parts; part++ {
			l := make([]int32, m.Intn(9))
			for i := range l {
				l[i] = int32(m.number())
			}
			out, err := c.Run(part, l, l[:m.Intn(len(l)+1)])
			if err != api.OK && told(out) != told(compile.Out{}) {
				t.Fatal(told(out), err.Word())
			}
		}
	}
	if codes < 500 {
		t.Error(codes)
	}
}

// TestR3: a list that is nil and one that is empty are one; and what a kind doesn't have plays no part.
func TestR3(t *testing.T) {
	c := rules{}.code(t)
	for part := range compile.Parts {
		args := [][]int32{nil, nil, nil, {1}, nil}[part]
		a, errA := c.Run(part, nil, args)
		b, errB := c.Run(part, []int32{}, append([]int32{}, args...))
		if told(a) != told(b) || errA != api.OK || errB != api.OK {
			t.Error(part, told(a), told(b), errA.Word(), errB.Word())
		}
	}
	p := rules{vars: "var v 0 9", play: "a 0 9 v = a + 1 for i 1 2 do v = v + i end"}.program(t)
	p.Play[0].L = []syntax.Stmt{{Kind: syntax.Refuse}}
	p.Play[0].Else = []syntax.Stmt{{Kind: 77}}
	p.Play[0].Low, p.Play[0].High = 3, 4
	p.Play[0].E[0].N, p.Play[0].E[0].Name = 9, "nothing"
	p.Play[1].Else = []syntax.Stmt{{Kind: syntax.Refuse}, {Kind: -1}}
	want(t, compiled(t, p), compile.Play, []int32{0}, []int32{2}, vars(6))
}
