package machine_test

import (
	"math"
	"math/rand"
	"slices"
	"testing"

	"baize/api"
	"baize/code"
	"baize/machine"
)

const (
	least = math.MinInt32
	great = math.MaxInt32
)

// halt ends.
var halt = code.Instr{Op: code.Halt}

// at gives a state that goes on, at a place, with words.
func at(pc int, mem ...int32) machine.State { return machine.State{Pc: pc, Mem: mem} }

// refused gives a state as it is when it is refused.
func refused(s machine.State) machine.State {
	s = s.Clone()
	s.Halt = machine.Refused
	return s
}

// TestExamples: the chapter's.
func TestExamples(t *testing.T) {
	c := []code.Instr{{Op: code.Set, A: 0, B: 7}, {Op: code.Div, A: 1, B: 0, C: 2}, halt}
	s, steps, over := machine.Run(c, at(0, 0, 0, 0), 100)
	if !machine.Same(s, machine.State{Pc: 2, Mem: []int32{7, 0, 0}, Halt: machine.Done}) || steps != 3 || !over {
		t.Error(s, steps, over)
	}
	s, _ = machine.New(256)
	s.Mem[1] = 9
	c = []code.Instr{{Op: code.Load, A: 0, B: 250, C: 1}}
	if got := machine.Step(c, s); !machine.Same(got, refused(s)) {
		t.Error(got.Pc, got.Halt)
	}
}

// TestP151Halts: the numbers of what a state is at.
func TestP151Halts(t *testing.T) {
	if got := [...]int{machine.Runs, machine.Done, machine.Refused, machine.MostWords}; got != [...]int{0, 1, 2, 256} {
		t.Error(got)
	}
}

// TestP151New: words that are all 0.
func TestP151New(t *testing.T) {
	for _, n := range []int{1, 2, 255, 256} {
		if s, e := machine.New(n); e != api.OK || len(s.Mem) != n || slices.Max(s.Mem) != 0 || slices.Min(s.Mem) != 0 || s.Pc != 0 || s.Halt != machine.Runs || !s.Right() {
			t.Error(n, s, e)
		}
	}
	for _, n := range []int{math.MinInt, -1, 0, 257, math.MaxInt} {
		if s, e := machine.New(n); e != api.ErrRange || s.Mem != nil || s.Pc != 0 || s.Halt != 0 {
			t.Error(n, s, e)
		}
	}
	a, _ := machine.New(3)
	b, _ := machine.New(3)
	a.Mem[0] = 1
	if b.Mem[0] != 0 {
		t.Error("shared")
	}
}

// TestP151Right: which states may be.
func TestP151Right(t *testing.T) {
	for _, x := range []struct {
		s    machine.State
		want bool
	}{
		{machine.State{}, false}, {machine.State{Mem: []int32{}}, false}, {at(0, 1), true}, {at(0, make([]int32, 256)...), true}, {at(0, make([]int32, 257)...), false},
		{at(2048, 0), true}, {at(2049, 0), false}, {at(-1, 0), false}, {at(math.MinInt, 0), false}, {at(math.MaxInt, 0), false},
		{machine.State{Mem: []int32{0}, Halt: 1}, true}, {machine.State{Mem: []int32{0}, Halt: 2}, true}, {machine.State{Mem: []int32{0}, Halt: 3}, false}, {machine.State{Mem: []int32{0}, Halt: -1}, false}, {machine.State{Mem: []int32{0}, Halt: math.MinInt}, false},
	} {
		if got := x.s.Right(); got != x.want {
			t.Error(x.s.Pc, len(x.s.Mem), x.s.Halt, got)
		}
	}
}

// TestP151Same: by all that a state has.
func TestP151Same(t *testing.T) {
	a := machine.State{Pc: 3, Mem: []int32{1, 2}, Halt: 1}
	if !machine.Same(a, a.Clone()) || !machine.Same(machine.State{}, machine.State{Mem: []int32{}}) {
		t.Error("same")
	}
	for _, b := range []machine.State{{Pc: 4, Mem: []int32{1, 2}, Halt: 1}, {Pc: 3, Mem: []int32{1, 3}, Halt: 1}, {Pc: 3, Mem: []int32{0, 2}, Halt: 1}, {Pc: 3, Mem: []int32{1, 2}, Halt: 2}, {Pc: 3, Mem: []int32{1, 2, 0}, Halt: 1}, {Pc: 3, Mem: []int32{1}, Halt: 1}, {Pc: 3, Halt: 1}, {}} {
		if machine.Same(a, b) || machine.Same(b, a) {
			t.Error(b)
		}
	}
	wild := machine.State{Pc: -5, Mem: make([]int32, 1000), Halt: 77}
	if !machine.Same(wild, wild.Clone()) {
		t.Error("wild")
	}
}

// TestP151Clone: one that shares nothing.
func TestP151Clone(t *testing.T) {
	a := machine.State{Pc: 3, Mem: []int32{1, 2}, Halt: 1}
	b := a.Clone()
	b.Mem[0], b.Pc = 9, 4
	if a.Mem[0] != 1 || a.Pc != 3 {
		t.Error(a)
	}
	if c := (machine.State{Pc: -1, Halt: 9}).Clone(); c.Pc != -1 || c.Halt != 9 || len(c.Mem) != 0 {
		t.Error(c)
	}
}

// TestP152Two: what operations of two words do.
func TestP152Two(t *testing.T) {
	for _, x := range []struct {
		b, c int32
		want [11]int32 // add, sub, mul, div, rem, eq, ne, lt, le, and, or
	}{
		{7, 2, [11]int32{9, 5, 14, 3, 1, 0, 1, 0, 0, 1, 1}},
		{-7, 2, [11]int32{-5, -9, -14, -3, -1, 0, 1, 1, 1, 1, 1}},
		{7, -2, [11]int32{5, 9, -14, -3, 1, 0, 1, 0, 0, 1, 1}},
		{-7, -2, [11]int32{-9, -5, 14, 3, -1, 0, 1, 1, 1, 1, 1}},
		{5, 5, [11]int32{10, 0, 25, 1, 0, 1, 0, 0, 1, 1, 1}},
		{0, 0, [11]int32{0, 0, 0, 0, 0, 1, 0, 0, 1, 0, 0}},
		{7, 0, [11]int32{7, 7, 0, 0, 0, 0, 1, 0, 0, 0, 1}},
		{0, 7, [11]int32{7, -7, 0, 0, 0, 0, 1, 1, 1, 0, 1}},
		{least, 0, [11]int32{least, least, 0, 0, 0, 0, 1, 1, 1, 0, 1}},
		{least, -1, [11]int32{great, least + 1, least, least, 0, 0, 1, 1, 1, 1, 1}},
		{great, 1, [11]int32{least, great - 1, great, great, 0, 0, 1, 0, 0, 1, 1}},
		{least, 1, [11]int32{least + 1, great, least, least, 0, 0, 1, 1, 1, 1, 1}},
		{great, great, [11]int32{-2, 0, 1, 1, 0, 1, 0, 0, 1, 1, 1}},
		{least, least, [11]int32{0, 0, 0, 1, 0, 1, 0, 0, 1, 1, 1}},
		{65536, 65536, [11]int32{131072, 0, 0, 1, 0, 1, 0, 0, 1, 1, 1}},
		{great, least, [11]int32{-1, -1, least, 0, great, 0, 1, 0, 0, 1, 1}},
	} {
		for k, op := range []int{code.Add, code.Sub, code.Mul, code.Div, code.Rem, code.Eq, code.Ne, code.Lt, code.Le, code.And, code.Or} {
			got := machine.Step([]code.Instr{{Op: op, A: 2, B: 0, C: 1}}, at(0, x.b, x.c, 77))
			if !machine.Same(got, at(1, x.b, x.c, x.want[k])) {
				t.Error(code.Word(op), x.b, x.c, got)
			}
			if got = machine.Step([]code.Instr{{Op: op, A: 0, B: 0, C: 1}}, at(0, x.b, x.c, 77)); got.Mem[0] != x.want[k] {
				t.Error(code.Word(op), x.b, x.c, got)
			}
		}
	}
}

// TestP152Others: what the other operations do.
func TestP152Others(t *testing.T) {
	for k, x := range []struct {
		i    code.Instr
		s    machine.State
		want machine.State
	}{
		{code.Instr{Op: code.Halt}, at(0, 5), machine.State{Mem: []int32{5}, Halt: machine.Done}},
		{code.Instr{Op: code.Halt, A: 1}, at(0, 5), machine.State{Mem: []int32{5}, Halt: machine.Refused}},
		{code.Instr{Op: code.Set, A: 1, B: least}, at(0, 5, 6), at(1, 5, least)}, {code.Instr{Op: code.Set, A: 0, B: great}, at(0, 5, 6), at(1, great, 6)},
		{code.Instr{Op: code.Move, A: 1, B: 0}, at(0, 5, 6), at(1, 5, 5)}, {code.Instr{Op: code.Move, A: 1, B: 1}, at(0, 5, 6), at(1, 5, 6)},
		{code.Instr{Op: code.Not, A: 1, B: 0}, at(0, 5, 6), at(1, 5, 0)}, {code.Instr{Op: code.Not, A: 1, B: 0}, at(0, 0, 6), at(1, 0, 1)}, {code.Instr{Op: code.Not, A: 1, B: 0}, at(0, -1, 6), at(1, -1, 0)},
		{code.Instr{Op: code.Load, A: 0, B: 1, C: 2}, at(0, 5, 6, 1, 8), at(1, 1, 6, 1, 8)}, {code.Instr{Op: code.Load, A: 2, B: 1, C: 2}, at(0, 5, 6, 2, 8), at(1, 5, 6, 8, 8)}, {code.Instr{Op: code.Load, A: 0, B: 3, C: 2}, at(0, 5, 6, -2, 8), at(1, 6, 6, -2, 8)},
		{code.Instr{Op: code.Load, A: 1, B: 1, C: 2}, at(0, 5, 6, -1, 8), at(1, 5, 5, -1, 8)},
		{code.Instr{Op: code.Store, A: 1, B: 2, C: 3}, at(0, 5, 6, -1, 8), at(1, 8, 6, -1, 8)}, {code.Instr{Op: code.Store, A: 1, B: 2, C: 3}, at(0, 5, 6, 1, 8), at(1, 5, 6, 8, 8)}, {code.Instr{Op: code.Store, A: 1, B: 2, C: 0}, at(0, 5, 6, 2, 8), at(1, 5, 6, 2, 5)},
		{code.Instr{Op: code.Cut, A: 0, B: -3, C: 4}, at(0, 5, 6), at(1, 4, 6)}, {code.Instr{Op: code.Cut, A: 0, B: -3, C: 4}, at(0, -4), at(1, -3)}, {code.Instr{Op: code.Cut, A: 0, B: -3, C: 4}, at(0, -3), at(1, -3)}, {code.Instr{Op: code.Cut, A: 0, B: -3, C: 4}, at(0, 4), at(1, 4)}, {code.Instr{Op: code.Cut, A: 0, B: 9, C: 9}, at(0, great), at(1, 9)}, {code.Instr{Op: code.Cut, A: 0, B: least, C: great}, at(0, least), at(1, least)},
		{code.Instr{Op: code.Within, A: 0, B: 1, C: 3}, at(0, 5, 2), at(1, 1, 2)}, {code.Instr{Op: code.Within, A: 0, B: 1, C: 3}, at(0, 5, 3), at(1, 0, 3)}, {code.Instr{Op: code.Within, A: 0, B: 1, C: 3}, at(0, 5, 0), at(1, 1, 0)}, {code.Instr{Op: code.Within, A: 0, B: 1, C: 3}, at(0, 5, -1), at(1, 0, -1)}, {code.Instr{Op: code.Within, A: 0, B: 1, C: 0}, at(0, 5, 0), at(1, 0, 0)}, {code.Instr{Op: code.Within, A: 0, B: 0, C: great}, at(0, great), at(1, 0)}, {code.Instr{Op: code.Within, A: 0, B: 0, C: great}, at(0, great-1), at(1, 1)}, {code.Instr{Op: code.Within, A: 0, B: 0, C: great}, at(0, least), at(1, 0)},
		{code.Instr{Op: code.Jump, A: 2}, at(0, 5), at(2, 5)}, {code.Instr{Op: code.Jump, A: 0}, at(0, 5), at(0, 5)},
		{code.Instr{Op: code.Jz, A: 2, B: 1}, at(0, 5, 0), at(2, 5, 0)}, {code.Instr{Op: code.Jz, A: 2, B: 1}, at(0, 0, -1), at(1, 0, -1)}, {code.Instr{Op: code.Jnz, A: 2, B: 1}, at(0, 5, 0), at(1, 5, 0)}, {code.Instr{Op: code.Jnz, A: 2, B: 1}, at(0, 0, -1), at(2, 0, -1)},
	} {
		if got := machine.Step([]code.Instr{x.i, halt, halt}, x.s); !machine.Same(got, x.want) {
			t.Error(k, x.i, x.s, got)
		}
	}
}

// TestP152Refused: what can't be done.
func TestP152Refused(t *testing.T) {
	many := slices.Repeat([]code.Instr{halt}, 2048)
	for k, x := range []struct {
		c []code.Instr
		s machine.State
	}{
		{nil, at(0, 5)}, {[]code.Instr{halt}, at(1, 5)}, {[]code.Instr{halt}, at(2048, 5)}, {many, at(2048, 5)}, {append(slices.Clone(many), halt), at(0, 5)},
		{[]code.Instr{{Op: 22}}, at(0, 5)}, {[]code.Instr{{Op: -1}}, at(0, 5)}, {[]code.Instr{{Op: code.Set, A: 1}}, at(0, 5)}, {[]code.Instr{{Op: code.Set, A: -1}}, at(0, 5)}, {[]code.Instr{{Op: code.Set, C: 1}}, at(0, 5)}, {[]code.Instr{{Op: code.Set, B: 1 << 31}}, at(0, 5)}, {[]code.Instr{{Op: code.Halt, A: 2}}, at(0, 5)}, {[]code.Instr{{Op: code.Jump, A: 1}}, at(0, 5)}, {[]code.Instr{{Op: code.Cut, B: 2, C: 1}}, at(0, 5)}, {[]code.Instr{{Op: code.Within, C: -1}}, at(0, 5)}, {[]code.Instr{{Op: code.Jz, A: 1}}, at(0, 5)},
		{[]code.Instr{{Op: code.Load, B: 1}}, at(0, 1, 6)}, {[]code.Instr{{Op: code.Load, B: 1}}, at(0, -2, 6)}, {[]code.Instr{{Op: code.Load, B: 1}}, at(0, great, 6)}, {[]code.Instr{{Op: code.Load}}, at(0, least, 6)}, {[]code.Instr{{Op: code.Load}}, at(0, -1, 6)},
		{[]code.Instr{{Op: code.Store, A: 1}}, at(0, 1, 6)}, {[]code.Instr{{Op: code.Store, A: 1}}, at(0, -2, 6)}, {[]code.Instr{{Op: code.Store, A: 1}}, at(0, great, 6)}, {[]code.Instr{{Op: code.Store}}, at(0, -1, 6)}, {[]code.Instr{{Op: code.Store}}, at(0, 2, 6)},
	} {
		if got := machine.Step(x.c, x.s); !machine.Same(got, refused(x.s)) {
			t.Error(k, got)
		}
		if got, steps, over := machine.Run(x.c, x.s, 9); !machine.Same(got, refused(x.s)) || steps != 1 || !over {
			t.Error(k, got, steps, over)
		}
	}
	if got := machine.Step(many, at(2047, 5)); got.Halt != machine.Done || got.Pc != 2047 {
		t.Error(got)
	}
	wrong := []code.Instr{halt, {Op: 99}}
	if got := machine.Step(wrong, at(0, 5)); got.Halt != machine.Done {
		t.Error("another one may be wrong", got)
	}
	if got := machine.Step([]code.Instr{{Op: code.Set, A: 0, B: 3}}, at(0, 5)); !machine.Same(got, at(1, 3)) {
		t.Error(got)
	}
}

// unright gives states that may not be.
func unright() []machine.State {
	return []machine.State{{}, {Pc: -1, Mem: []int32{1}}, {Pc: 2049, Mem: []int32{1}}, {Mem: []int32{1}, Halt: 3}, {Mem: []int32{1}, Halt: -1}, {Mem: make([]int32, 257)}, {Pc: math.MinInt, Mem: []int32{1}, Halt: math.MaxInt}}
}

// TestP152Unright: states that may not be, and those that don't go on.
func TestP152Unright(t *testing.T) {
	c := []code.Instr{{Op: code.Set, A: 0, B: 3}, halt}
	for _, s := range unright() {
		if got := machine.Step(c, s); !machine.Same(got, s) {
			t.Error(s, got)
		}
		if got, steps, over := machine.Run(c, s, 9); !machine.Same(got, s) || steps != 0 || over {
			t.Error(s, got, steps, over)
		}
		if l, w := machine.Reads(c, s); len(l) != 0 || w != -1 {
			t.Error(s, l, w)
		}
	}
	for _, h := range []int{machine.Done, machine.Refused} {
		s := machine.State{Mem: []int32{8}, Halt: h}
		if got := machine.Step(c, s); !machine.Same(got, s) {
			t.Error(got)
		}
		if got, steps, over := machine.Run(c, s, 9); !machine.Same(got, s) || steps != 0 || !over {
			t.Error(got, steps, over)
		}
		if l, w := machine.Reads(c, s); len(l) != 0 || w != -1 {
			t.Error(l, w)
		}
		s.Pc = 2048
		if got := machine.Step(nil, s); !machine.Same(got, s) {
			t.Error(got)
		}
	}
}

// TestP152Run: how many steps are done, and whether it goes on.
func TestP152Run(t *testing.T) {
	c := []code.Instr{{Op: code.Add, A: 0, B: 0, C: 1}, {Op: code.Jump, A: 0}}
	for _, x := range []struct{ most, steps int }{{math.MinInt, 0}, {-1, 0}, {0, 0}, {1, 1}, {2, 2}, {7, 7}, {1<<20 - 1, 1<<20 - 1}, {1 << 20, 1 << 20}, {1<<20 + 1, 1 << 20}, {math.MaxInt, 1 << 20}} {
		s, steps, over := machine.Run(c, at(0, 0, 3), x.most)
		if steps != x.steps || over || s.Pc != x.steps%2 || s.Mem[0] != int32((x.steps+1)/2*3) || s.Halt != machine.Runs {
			t.Error(x, s, steps, over)
		}
	}
	c = []code.Instr{{Op: code.Sub, A: 0, B: 0, C: 1}, {Op: code.Jnz, A: 0, B: 0}, {Op: code.Halt, A: 1}}
	for most := range 12 {
		s, steps, over := machine.Run(c, at(0, 4, 1), most)
		if steps != min(most, 9) || over != (most >= 9) || (s.Halt == machine.Refused) != over {
			t.Error(most, s, steps, over)
		}
	}
}

// TestP153Reads: which words a step reads and writes.
func TestP153Reads(t *testing.T) {
	for k, x := range []struct {
		i      code.Instr
		mem    []int32
		reads  []int
		writes int
	}{
		{code.Instr{Op: code.Halt}, []int32{1}, nil, -1}, {code.Instr{Op: code.Halt, A: 1}, []int32{1}, nil, -1}, {code.Instr{Op: code.Set, A: 1}, []int32{1, 2}, nil, 1}, {code.Instr{Op: code.Move, A: 0, B: 1}, []int32{1, 2}, []int{1}, 0}, {code.Instr{Op: code.Cut, A: 1}, []int32{1, 2}, []int{1}, 1}, {code.Instr{Op: code.Within, A: 1, B: 0}, []int32{1, 2}, []int{0}, 1}, {code.Instr{Op: code.Not, A: 1, B: 0}, []int32{1, 2}, []int{0}, 1},
		{code.Instr{Op: code.Sub, A: 1, B: 2, C: 0}, []int32{1, 2, 3}, []int{0, 2}, 1}, {code.Instr{Op: code.Sub, A: 1, B: 2, C: 2}, []int32{1, 2, 3}, []int{2}, 1},
		{code.Instr{Op: code.Load, A: 0, B: 1, C: 2}, []int32{1, 2, 1, 9}, []int{2}, 0}, {code.Instr{Op: code.Load, A: 0, B: 1, C: 2}, []int32{1, 2, 2, 9}, []int{2, 3}, 0}, {code.Instr{Op: code.Load, A: 0, B: 1, C: 2}, []int32{1, 2, -1, 9}, []int{0, 2}, 0}, {code.Instr{Op: code.Load, A: 0, B: 1, C: 2}, []int32{1, 2, -2, 9}, []int{2}, -1}, {code.Instr{Op: code.Load, A: 0, B: 1, C: 2}, []int32{1, 2, 3, 9}, []int{2}, -1},
		{code.Instr{Op: code.Store, A: 1, B: 2, C: 0}, []int32{1, 2, 2, 9}, []int{0, 2}, 3}, {code.Instr{Op: code.Store, A: 1, B: 2, C: 2}, []int32{1, 2, -1, 9}, []int{2}, 0}, {code.Instr{Op: code.Store, A: 1, B: 3, C: 0}, []int32{1, 2, -1, 9}, []int{0, 3}, -1}, {code.Instr{Op: code.Store, A: 1, B: 2, C: 2}, []int32{1, 2, -2, 9}, []int{2}, -1},
		{code.Instr{Op: code.Jump}, []int32{1}, nil, -1}, {code.Instr{Op: code.Jz, B: 1}, []int32{1, 0}, []int{1}, -1}, {code.Instr{Op: code.Jnz, B: 1}, []int32{1, 0}, []int{1}, -1},
		{code.Instr{Op: 22}, []int32{1}, nil, -1}, {code.Instr{Op: code.Add, A: 1}, []int32{1}, nil, -1}, {code.Instr{Op: code.Add, C: -1}, []int32{1}, nil, -1}, {code.Instr{Op: code.Jz, A: 7}, []int32{1}, nil, -1}, {code.Instr{Op: code.Load, A: 4}, []int32{-1}, nil, -1},
	} {
		if l, w := machine.Reads([]code.Instr{x.i}, at(0, x.mem...)); !slices.Equal(l, x.reads) || w != x.writes {
			t.Error(k, l, w)
		}
		if l, w := machine.Reads([]code.Instr{x.i}, at(1, x.mem...)); len(l) != 0 || w != -1 {
			t.Error(k, l, w)
		}
		if l, w := machine.Reads(slices.Repeat([]code.Instr{x.i}, 2049), at(0, x.mem...)); len(l) != 0 || w != -1 {
			t.Error(k, l, w)
		}
	}
}

// TestR4: what is handed in stays, and what is handed out is nobody else's.
func TestR4(t *testing.T) {
	r := rand.New(rand.NewSource(154))
	for range 500 {
		c, s := program(r)
		c2, s2 := slices.Clone(c), s.Clone()
		a := machine.Step(c, s)
		b, _, _ := machine.Run(c, s, 50)
		l, _ := machine.Reads(c, s)
		for _, x := range []machine.State{a, b} {
			for k := range x.Mem {
				x.Mem[k] = 1234
			}
		}
		clear(l)
		if !slices.Equal(c, c2) || !machine.Same(s, s2) {
			t.Fatal("changed")
		}
	}
	for _, s := range append(unright(), machine.State{Mem: []int32{7}, Halt: 1}) {
		for _, got := range []machine.State{machine.Step(nil, s), first(machine.Run(nil, s, 3))} {
			if len(got.Mem) > 0 {
				got.Mem[0] = 99
			}
		}
		if len(s.Mem) > 0 && s.Mem[0] == 99 {
			t.Error("shared")
		}
	}
}

// first gives a run's state.
func first(s machine.State, _ int, _ bool) machine.State { return s }
