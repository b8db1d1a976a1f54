package code_test

import (
	"math"
	"math/rand"
	"slices"
	"strings"
	"testing"

	"baize/api"
	"baize/code"
)

// table is the chapter's, row by row: a name, and what it has.
const table = `halt n
set w n
move w w
add w w w
sub w w w
mul w w w
div w w w
rem w w w
eq w w w
ne w w w
lt w w w
le w w w
and w w w
or w w w
not w w
load w w w
store w w w
cut w n n
within w w n
jump p
jz p w
jnz p w`

// words are the table's rows as words.
var words = func() [][]string {
	var l [][]string
	for _, line := range strings.Split(table, "\n") {
		l = append(l, strings.Fields(line))
	}
	return l
}()

// rows gives the table's rows.
func rows() [][]string { return words }

// three gives A, B and C.
func three(i code.Instr) [3]int { return [3]int{i.A, i.B, i.C} }

// right is another look at what may be.
func right(i code.Instr, size, words int) bool {
	if i.Op < 0 || i.Op > 21 {
		return false
	}
	has := rows()[i.Op][1:]
	good := func(k, low, below int) bool { return three(i)[k] >= low && three(i)[k] < below }
	for k := range 3 {
		what := "-"
		if k < len(has) {
			what = has[k]
		}
		may := false
		switch what {
		case "-":
			may = good(k, 0, 1)
		case "w":
			may = good(k, 0, words)
		case "n":
			may = good(k, -1<<31, 1<<31)
		case "p":
			may = good(k, 0, size)
		}
		if !may {
			return false
		}
	}
	switch rows()[i.Op][0] {
	case "halt":
		return i.A == 0 || i.A == 1
	case "cut":
		return i.B <= i.C
	case "within":
		return i.C >= 0
	}
	return true
}

// edges are numbers at which something begins or ends.
var edges = []int{math.MinInt, -1<<31 - 1, -1 << 31, -1<<31 + 1, -2, -1, 0, 1, 2, 6, 7, 8, 255, 256, 257, 2047, 2048, 2049, 1<<31 - 2, 1<<31 - 1, 1 << 31, 1<<32 + 1, math.MaxInt}

// pick gives one of some numbers.
func pick(r *rand.Rand, l []int) int { return l[r.Intn(len(l))] }

// random gives an instruction that may be, among so many, with so many words.
func random(r *rand.Rand, size, words int) code.Instr {
	numbers := []int{-1 << 31, -1<<31 + 1, -70000, -128, -1, 0, 1, 63, 64, 300, 1<<31 - 1, r.Intn(1 << 20)}
	for {
		i := code.Instr{Op: r.Intn(code.Ops)}
		for k, what := range rows()[i.Op][1:] {
			*[]*int{&i.A, &i.B, &i.C}[k] = map[string]int{"w": r.Intn(words), "n": pick(r, numbers), "p": r.Intn(size)}[what]
		}
		if right(i, size, words) {
			return i
		}
	}
}

// several gives instructions that may be, with 256 words.
func several(r *rand.Rand, size int) []code.Instr {
	l := make([]code.Instr, size)
	for k := range l {
		l[k] = random(r, size, 256)
	}
	return l
}

// TestExample: the chapter's.
func TestExample(t *testing.T) {
	add, store := code.Instr{Op: code.Add, A: 3, B: 1, C: 2}, code.Instr{Op: code.Store, A: 5, B: 1, C: 2}
	if l := add.Reads(); !slices.Equal(l, []int{1, 2}) || add.Writes() != 3 {
		t.Error(l, add.Writes())
	}
	if l := store.Reads(); !slices.Equal(l, []int{1, 2}) || store.Writes() != -1 {
		t.Error(l, store.Writes())
	}
	if b, e := code.Encode([]code.Instr{{Op: code.Cut, A: 4, B: 0, C: 9}}); e != api.OK || !slices.Equal(b, []byte{1, 17, 8, 0, 18}) {
		t.Error(b, e)
	}
}

// TestP141Right: what may be, at all edges.
func TestP141Right(t *testing.T) {
	for _, op := range append([]int{math.MinInt, -1, 22, 23, 256, math.MaxInt}, seq(22)...) {
		for _, a := range edges {
			for _, b := range edges {
				for _, c := range edges {
					i := code.Instr{Op: op, A: a, B: b, C: c}
					for _, x := range [][2]int{{7, 7}, {2048, 256}, {1, 256}} {
						if i.Right(x[0], x[1]) != right(i, x[0], x[1]) {
							t.Fatal(i, x, i.Right(x[0], x[1]))
						}
					}
				}
			}
		}
	}
}

// seq gives the numbers from 0 to below n.
func seq(n int) []int {
	var l []int
	for k := range n {
		l = append(l, k)
	}
	return l
}

// TestP141AnyNumbers: as many instructions and words as one likes, even below 0.
func TestP141AnyNumbers(t *testing.T) {
	for _, n := range edges {
		jump, not := code.Instr{Op: code.Jump, A: 2}, code.Instr{Op: code.Not, A: 1, B: 2}
		if jump.Right(n, 1) != (n > 2) || not.Right(1, n) != (n > 2) {
			t.Error(n)
		}
		if !(code.Instr{Op: code.Halt}).Right(n, n) {
			t.Error("halt", n)
		}
	}
	great := code.Instr{Op: code.Move, A: math.MaxInt - 1}
	if !great.Right(0, math.MaxInt) {
		t.Error("move")
	}
}

// TestP141Each: each row, with what just may be and what just may not.
func TestP141Each(t *testing.T) {
	for _, x := range []struct {
		i    code.Instr
		want bool
	}{
		{code.Instr{Op: code.Halt}, true}, {code.Instr{Op: code.Halt, A: 1}, true}, {code.Instr{Op: code.Halt, A: 2}, false}, {code.Instr{Op: code.Halt, A: -1}, false}, {code.Instr{Op: code.Halt, B: 1}, false},
		{code.Instr{Op: code.Set, A: 3, B: -1 << 31}, true}, {code.Instr{Op: code.Set, A: 3, B: 1<<31 - 1}, true}, {code.Instr{Op: code.Set, A: 3, B: 1 << 31}, false}, {code.Instr{Op: code.Set, A: 4}, false}, {code.Instr{Op: code.Set, C: 1}, false},
		{code.Instr{Op: code.Cut, A: 3, B: 5, C: 5}, true}, {code.Instr{Op: code.Cut, A: 3, B: 6, C: 5}, false},
		{code.Instr{Op: code.Within, A: 3, B: 3}, true}, {code.Instr{Op: code.Within, C: -1}, false}, {code.Instr{Op: code.Within, C: 1<<31 - 1}, true}, {code.Instr{Op: code.Within, C: 1 << 31}, false},
		{code.Instr{Op: code.Jump, A: 9}, true}, {code.Instr{Op: code.Jump, A: 10}, false}, {code.Instr{Op: code.Jump, A: -1}, false}, {code.Instr{Op: code.Jump, B: 1}, false},
		{code.Instr{Op: code.Jz, A: 9, B: 3}, true}, {code.Instr{Op: code.Jz, A: 9, B: 4}, false}, {code.Instr{Op: code.Jnz, A: 10, B: 3}, false},
		{code.Instr{Op: code.Load, A: 3, B: 3, C: 3}, true}, {code.Instr{Op: code.Load, B: 4}, false}, {code.Instr{Op: code.Store, A: 4}, false}, {code.Instr{Op: code.Store, A: 3, B: 3, C: 4}, false},
		{code.Instr{Op: -1}, false}, {code.Instr{Op: 22}, false},
	} {
		if got := x.i.Right(10, 4); got != x.want {
			t.Error(x.i, got)
		}
	}
}

// TestP141Check: the first one that may not be.
func TestP141Check(t *testing.T) {
	halt, bad := code.Instr{Op: code.Halt}, code.Instr{Op: code.Halt, A: 2}
	most := slices.Repeat([]code.Instr{halt}, 2048)
	for k, x := range []struct {
		l     []code.Instr
		words int
		at    int
		e     api.Errno
	}{
		{[]code.Instr{halt}, 1, -1, api.OK}, {[]code.Instr{halt}, 256, -1, api.OK}, {most, 256, -1, api.OK},
		{[]code.Instr{halt}, 0, -1, api.ErrRange}, {[]code.Instr{bad}, 257, -1, api.ErrRange}, {[]code.Instr{bad}, math.MinInt, -1, api.ErrRange}, {[]code.Instr{bad}, math.MaxInt, -1, api.ErrRange},
		{nil, 5, -1, api.ErrRange}, {[]code.Instr{}, 5, -1, api.ErrRange}, {append(slices.Clone(most), bad), 5, -1, api.ErrRange},
		{[]code.Instr{bad}, 1, 0, api.ErrForm}, {[]code.Instr{halt, bad, bad}, 1, 1, api.ErrForm}, {append(slices.Clone(most[:2047]), bad), 1, 2047, api.ErrForm},
		{[]code.Instr{halt, {Op: code.Jump, A: 1}}, 1, -1, api.OK}, {[]code.Instr{halt, {Op: code.Jump, A: 2}}, 1, 1, api.ErrForm},
		{[]code.Instr{{Op: code.Set, A: 6}}, 7, -1, api.OK}, {[]code.Instr{{Op: code.Set, A: 7}}, 7, 0, api.ErrForm},
	} {
		if at, e := code.Check(x.l, x.words); at != x.at || e != x.e {
			t.Error(k, at, e)
		}
	}
}

// TestP143Words: which words each operation reads and writes.
func TestP143Words(t *testing.T) {
	for op, want := range [][]int{
		code.Halt: {-1}, code.Set: {10}, code.Move: {10, 20}, code.Add: {10, 20, 30}, code.Sub: {10, 20, 30}, code.Mul: {10, 20, 30}, code.Div: {10, 20, 30}, code.Rem: {10, 20, 30},
		code.Eq: {10, 20, 30}, code.Ne: {10, 20, 30}, code.Lt: {10, 20, 30}, code.Le: {10, 20, 30}, code.And: {10, 20, 30}, code.Or: {10, 20, 30}, code.Not: {10, 20},
		code.Load: {10, 30}, code.Store: {-1, 20, 30}, code.Cut: {10, 10}, code.Within: {10, 20}, code.Jump: {-1}, code.Jz: {-1, 20}, code.Jnz: {-1, 20},
	} {
		i := code.Instr{Op: op, A: 10, B: 20, C: 30}
		if l := i.Reads(); !slices.Equal(l, want[1:]) || i.Writes() != want[0] {
			t.Error(op, l, i.Writes())
		}
	}
	for _, x := range []struct {
		i      code.Instr
		reads  []int
		writes int
	}{
		{code.Instr{Op: code.Add, A: 1, B: 1, C: 1}, []int{1}, 1}, {code.Instr{Op: code.Sub, A: 3, B: 9, C: 2}, []int{9, 2}, 3}, {code.Instr{Op: code.Store, A: 1, B: 7, C: 7}, []int{7}, -1},
		{code.Instr{Op: code.Load, A: 7, B: 7, C: 7}, []int{7}, 7}, {code.Instr{Op: code.Le, A: -5, B: math.MaxInt, C: math.MinInt}, []int{math.MaxInt, math.MinInt}, -5},
		{code.Instr{Op: -1, A: 1, B: 2, C: 3}, nil, -1}, {code.Instr{Op: 22, A: 1, B: 2, C: 3}, nil, -1}, {code.Instr{Op: math.MinInt}, nil, -1}, {code.Instr{Op: math.MaxInt}, nil, -1},
	} {
		if l := x.i.Reads(); !slices.Equal(l, x.reads) || x.i.Writes() != x.writes {
			t.Error(x.i, l, x.i.Writes())
		}
	}
}

// TestP143Next: where it may go on.
func TestP143Next(t *testing.T) {
	for op := -1; op <= code.Ops; op++ {
		for _, at := range []int{-7, 0, 4, 5, 2047, 1 << 40} {
			i := code.Instr{Op: op, A: 5, B: 6, C: 7}
			want := []int{at + 1}
			switch {
			case op < 0 || op == code.Ops || op == code.Halt:
				want = nil
			case op == code.Jump:
				want = []int{5}
			case op > code.Jump && at != 4:
				want = []int{at + 1, 5}
			}
			if l := i.Next(at); !slices.Equal(l, want) {
				t.Error(i, at, l)
			}
		}
	}
	if l := (code.Instr{Op: math.MaxInt, A: 5}).Next(0); len(l) != 0 {
		t.Error(l)
	}
}

// TestR4: what is handed in stays, and what is handed out is nobody else's.
func TestR4(t *testing.T) {
	r := rand.New(rand.NewSource(144))
	l := several(r, 50)
	kept := slices.Clone(l)
	b, _ := code.Encode(l)
	first := slices.Clone(b)
	got, _ := code.Decode(b)
	b[5], got[3] = 99, code.Instr{}
	if other, _ := code.Encode(l); !slices.Equal(other, first) || !slices.Equal(l, kept) {
		t.Error("Encode")
	}
	if other, _ := code.Decode(first); !slices.Equal(other, kept) {
		t.Error("Decode")
	}
	s, _ := code.List(l)
	parsed, _, _ := code.Parse(s)
	parsed[0] = code.Instr{}
	if other, _, _ := code.Parse(s); !slices.Equal(other, kept) || !slices.Equal(l, kept) {
		t.Error("Parse")
	}
	i := code.Instr{Op: code.Jz, A: 4, B: 3}
	i.Reads()[0], i.Next(1)[0] = 9, 9
	if !slices.Equal(i.Reads(), []int{3}) || !slices.Equal(i.Next(1), []int{2, 4}) {
		t.Error("Reads, Next")
	}
}
