package machine_test

import (
	"math/big"
	"math/rand"
	"slices"
	"testing"

	"baize/code"
	"baize/machine"
)

// values are words at which something begins or ends.
var values = []int32{least, least + 1, -65536, -7, -2, -1, 0, 0, 0, 1, 1, 2, 3, 5, 7, 65536, great - 1, great}

// program gives instructions, mostly such that may be, and a state of theirs.
func program(r *rand.Rand) ([]code.Instr, machine.State) {
	size, words := 1+r.Intn(8), 1+r.Intn(7)
	c := make([]code.Instr, size)
	for k := range c {
		i := code.Instr{Op: r.Intn(code.Ops)}
		switch i.Op {
		case code.Halt:
			i.A = r.Intn(2)
		case code.Jump, code.Jz, code.Jnz:
			i.A, i.B = r.Intn(size), r.Intn(words)
		case code.Set:
			i.A, i.B = r.Intn(words), int(values[r.Intn(len(values))])
		case code.Cut:
			i.A, i.B, i.C = r.Intn(words), int(values[r.Intn(len(values))]), int(values[r.Intn(len(values))])
		case code.Within:
			i.A, i.B, i.C = r.Intn(words), r.Intn(words), int(values[r.Intn(len(values))])
		default:
			i.A, i.B, i.C = r.Intn(words), r.Intn(words), r.Intn(words)
		}
		switch i.Op {
		case code.Jump:
			i.B = 0
		case code.Move, code.Not:
			i.C = 0
		}
		if r.Intn(40) == 0 {
			i.A += r.Intn(3) - 1
		}
		c[k] = i
	}
	mem := make([]int32, words)
	for k := range mem {
		mem[k] = values[r.Intn(len(values))]
	}
	return c, at(r.Intn(size), mem...)
}

// round gives a number modulo 2^32, from -2^31 on.
func round(n *big.Int) int32 { return int32(uint32(new(big.Int).And(n, big.NewInt(1<<32-1)).Uint64())) }

// other is another look at a step: it reckons with great numbers, and tells
// what it reads and writes as it goes.
type other struct {
	s      machine.State
	reads  []int
	writes int
}

// word reads a word; there is none beyond.
func (o *other) word(at int) *big.Int {
	o.reads = append(o.reads, at)
	return big.NewInt(int64(o.s.Mem[at]))
}

// put writes a word.
func (o *other) put(at int, n *big.Int) {
	o.s.Mem[at] = round(n)
	o.writes = at
}

// bit gives 1 or 0.
func bit(so bool) *big.Int {
	if so {
		return big.NewInt(1)
	}
	return new(big.Int)
}

// look gives the other look at a step.
func look(c []code.Instr, s machine.State) *other {
	o := &other{s: s.Clone(), writes: -1}
	if s.Halt != machine.Runs {
		return o
	}
	if s.Pc >= len(c) || !c[s.Pc].Right(len(c), len(s.Mem)) {
		o.s.Halt = machine.Refused
		return o
	}
	i := c[s.Pc]
	o.s.Pc++
	switch i.Op {
	case code.Halt:
		o.s.Pc--
		o.s.Halt = []int{machine.Done, machine.Refused}[i.A]
	case code.Set:
		o.put(i.A, big.NewInt(int64(i.B)))
	case code.Move:
		o.put(i.A, o.word(i.B))
	case code.Not:
		o.put(i.A, bit(o.word(i.B).Sign() == 0))
	case code.Load, code.Store:
		o.memory(i)
	case code.Cut:
		l := []*big.Int{big.NewInt(int64(i.B)), o.word(i.A), big.NewInt(int64(i.C))}
		slices.SortFunc(l, (*big.Int).Cmp)
		o.put(i.A, l[1]) // the middle one
	case code.Within:
		x := o.word(i.B)
		o.put(i.A, bit(x.Sign() >= 0 && x.Cmp(big.NewInt(int64(i.C))) < 0))
	case code.Jump:
		o.s.Pc = i.A
	case code.Jz, code.Jnz:
		if zero := o.word(i.B).Sign() == 0; zero == (i.Op == code.Jz) {
			o.s.Pc = i.A
		}
	default:
		b, c := o.word(i.B), o.word(i.C)
		o.put(i.A, two(i.Op, b, c))
	}
	return o
}

// memory does a load or a store.
func (o *other) memory(i code.Instr) {
	from, by := i.B, i.C
	if i.Op == code.Store {
		from, by = i.A, i.B
	}
	sum := new(big.Int).Add(big.NewInt(int64(from)), o.word(by))
	var value *big.Int
	if i.Op == code.Store {
		value = o.word(i.C)
	}
	if sum.Sign() < 0 || sum.Cmp(big.NewInt(int64(len(o.s.Mem)))) >= 0 {
		o.s.Halt = machine.Refused
		o.s.Pc--
		return
	}
	if i.Op == code.Store {
		o.put(int(sum.Int64()), value)
		return
	}
	o.put(i.A, o.word(int(sum.Int64())))
}

// two gives what comes of two words.
func two(op int, b, c *big.Int) *big.Int {
	if c.Sign() == 0 && (op == code.Div || op == code.Rem) {
		return new(big.Int)
	}
	switch op {
	case code.Add:
		return new(big.Int).Add(b, c)
	case code.Sub:
		return new(big.Int).Sub(b, c)
	case code.Mul:
		return new(big.Int).Mul(b, c)
	case code.Div:
		return new(big.Int).Quo(b, c)
	case code.Rem:
		return new(big.Int).Rem(b, c)
	case code.Eq:
		return bit(b.Cmp(c) == 0)
	case code.Ne:
		return bit(b.Cmp(c) != 0)
	case code.Lt:
		return bit(b.Cmp(c) < 0)
	case code.Le:
		return bit(b.Cmp(c) <= 0)
	case code.And:
		return bit(b.Sign()*c.Sign() != 0)
	}
	return bit(b.Sign() != 0 || c.Sign() != 0)
}

// TestP152Other: steps and runs, against the other look.
func TestP152Other(t *testing.T) {
	r := rand.New(rand.NewSource(152))
	seen := map[int]int{}
	for range 20000 {
		c, s := program(r)
		start, steps := s, 0
		for ; steps < 12 && s.Halt == machine.Runs; steps++ {
			seen[c[min(s.Pc, len(c)-1)].Op]++
			o := look(c, s)
			got := machine.Step(c, s)
			if !machine.Same(got, o.s) {
				t.Fatal(c, s, got, o.s)
			}
			reads, writes := machine.Reads(c, s)
			slices.Sort(o.reads)
			if !slices.Equal(reads, slices.Compact(o.reads)) || writes != o.writes {
				t.Fatal(c, s, reads, writes, o.reads, o.writes)
			}
			s = got
		}
		got, n, over := machine.Run(c, start, 12)
		if !machine.Same(got, s) || n != steps || over != (s.Halt != machine.Runs) {
			t.Fatal(c, start, got, n, over)
		}
	}
	for op := range code.Ops {
		if seen[op] < 500 {
			t.Error(op, seen[op])
		}
	}
}

// TestP154Words: a step hangs on the words that are told alone, and writes no other.
func TestP154Words(t *testing.T) {
	r := rand.New(rand.NewSource(154))
	for range 30000 {
		c, s := program(r)
		reads, writes := machine.Reads(c, s)
		got := machine.Step(c, s)
		for k := range s.Mem {
			if k != writes && got.Mem[k] != s.Mem[k] {
				t.Fatal(c, s, got)
			}
		}
		changed := s.Clone()
		for k := range changed.Mem {
			if !slices.Contains(reads, k) {
				changed.Mem[k] = values[r.Intn(len(values))]
			}
		}
		after := machine.Step(c, changed)
		if after.Pc != got.Pc || after.Halt != got.Halt || writes >= 0 && after.Mem[writes] != got.Mem[writes] {
			t.Fatal(c, s, got, changed, after)
		}
		if l, w := machine.Reads(c, changed); !slices.Equal(l, reads) || w != writes {
			t.Fatal(c, s, l, w)
		}
	}
}

// TestP154Stays: what doesn't go on stays as it is for good.
func TestP154Stays(t *testing.T) {
	r := rand.New(rand.NewSource(1540))
	for range 3000 {
		c, s := program(r)
		s, _, over := machine.Run(c, s, 30)
		if !over {
			continue
		}
		for range 3 {
			if got := machine.Step(c, s); !machine.Same(got, s) {
				t.Fatal(s, got)
			}
		}
		if got, n, over := machine.Run(c, s, 1<<20); !machine.Same(got, s) || n != 0 || !over {
			t.Fatal(s, got, n)
		}
	}
}
