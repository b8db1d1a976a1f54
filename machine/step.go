package machine

import "baize/code"

// operation is what comes of two words.
type operation func(b, c int32) int32

// operations gives those that have two words and nothing else.
func operations() map[int]operation {
	return map[int]operation{
		code.Add: func(b, c int32) int32 { return b + c },
		code.Sub: func(b, c int32) int32 { return b - c },
		code.Mul: func(b, c int32) int32 { return b * c },
		code.Div: func(b, c int32) int32 {
			if c == 0 {
				return 0
			}
			return b / c
		},
		code.Rem: func(b, c int32) int32 {
			if c == 0 {
				return 0
			}
			return b % c
		},
		code.Eq:  func(b, c int32) int32 { return truth(b == c) },
		code.Ne:  func(b, c int32) int32 { return truth(b != c) },
		code.Lt:  func(b, c int32) int32 { return truth(b < c) },
		code.Le:  func(b, c int32) int32 { return truth(b <= c) },
		code.And: func(b, c int32) int32 { return truth(b != 0 && c != 0) },
		code.Or:  func(b, c int32) int32 { return truth(b != 0 || c != 0) },
	}
}

// truth gives 1 for what is so, else 0.
func truth(so bool) int32 {
	if so {
		return 1
	}
	return 0
}

// step does the next instruction of a state that is right and goes on.
func step(c []code.Instr, s *State, of map[int]operation) {
	i, is := named(c, *s)
	if !is {
		s.Halt = Refused
		return
	}
	at, there := reached(i, s.Mem)
	if !there {
		s.Halt = Refused
		return
	}
	m := s.Mem
	next := s.Pc + 1
	switch i.Op {
	case code.Halt:
		next = s.Pc
		s.Halt = Done
		if i.A == 1 {
			s.Halt = Refused
		}
	case code.Set:
		m[i.A] = int32(i.B)
	case code.Move:
		m[i.A] = m[i.B]
	case code.Not:
		m[i.A] = truth(m[i.B] == 0)
	case code.Load:
		m[i.A] = m[at]
	case code.Store:
		m[at] = m[i.C]
	case code.Cut:
		m[i.A] = min(max(m[i.A], int32(i.B)), int32(i.C))
	case code.Within:
		m[i.A] = truth(m[i.B] >= 0 && int(m[i.B]) < i.C)
	case code.Jump, code.Jz, code.Jnz:
		if jumps(i, m) {
			next = i.A
		}
	default:
		m[i.A] = of[i.Op](m[i.B], m[i.C])
	}
	s.Pc = next
}

// jumps tells whether a jump is done.
func jumps(i code.Instr, m []int32) bool {
	return i.Op == code.Jump || (i.Op == code.Jz) == (m[i.B] == 0)
}

// named gives the instruction at a state's place, if there is one that may be.
func named(c []code.Instr, s State) (code.Instr, bool) {
	if len(c) > code.MostCode || s.Pc >= len(c) || !c[s.Pc].Right(len(c), len(s.Mem)) {
		return code.Instr{}, false
	}
	return c[s.Pc], true
}

// reached gives the place that a load or a store reckons (0 of all others),
// and whether there is a word.
func reached(i code.Instr, m []int32) (int, bool) {
	at := int64(0)
	switch i.Op {
	case code.Load:
		at = int64(i.B) + int64(m[i.C])
	case code.Store:
		at = int64(i.A) + int64(m[i.B])
	}
	return int(at), at >= 0 && at < int64(len(m))
}
