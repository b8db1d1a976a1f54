package hash

import "math/bits"

// The kinds keep digests of unlike things apart.
const (
	kindOf uint64 = iota + 1
	kindOne
	kindTwo
	kindWord
	kindMany
	kindStream
)

// rounds is how often a state's words are mixed when it is stirred.
const rounds = 6

// state is what numbers are taken into.
type state [4]uint64

// start gives a state of a kind.
func start(kind uint64) state {
	return state{0x243f6a8885a308d3, 0x13198a2e03707344, 0xa4093822299f31d0, kind}
}

// stir mixes a state's words.
func (s *state) stir() {
	w0, w1, w2, w3 := s[0], s[1], s[2], s[3]
	for i := range rounds {
		w0 = (w0 + w1) ^ uint64(i+1)
		w3 = bits.RotateLeft64(w3^w0, 32)
		w2 += w3
		w1 = bits.RotateLeft64(w1^w2, 24)
		w0 += w1
		w3 = bits.RotateLeft64(w3^w0, 16)
		w2 += w3
		w1 = bits.RotateLeft64(w1^w2, 63)
	}
	*s = state{w0, w1, w2, w3}
}

// take takes a number in.
func (s *state) take(n uint64) {
	s[0] ^= n
	s.stir()
}

// takeBytes takes bytes in.
func (s *state) takeBytes(b []byte) {
	s.takeEnd(s.takeEights(b), len(b))
}

// takeEights takes in as many whole eights as bytes have, and gives what is left behind them.
func (s *state) takeEights(b []byte) []byte {
	for len(b) >= Size {
		s.take(Num(Digest(b[:Size])))
		b = b[Size:]
	}
	return b
}

// takeEnd takes in what is left behind the whole eights, and how many bytes there were in all.
func (s *state) takeEnd(left []byte, count int) {
	var last Digest
	copy(last[:], left)
	last[len(left)] = 1
	s.take(Num(last))
	s.take(uint64(count))
}

// digest gives the digest of a state.
func (s *state) digest() Digest {
	return FromNum(s[0] ^ s[2])
}
