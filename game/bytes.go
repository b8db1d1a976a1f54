package game

import (
	"bytes"
	"math"

	"baize/api"
	"baize/hash"
	"baize/octet"
)

// What bytes that are read tell at most.
const (
	mostCells = 64
	mostSeats = 8
	mostArgs  = 4
)

// laid is what numbers are laid behind, one by one.
type laid []byte

// num lays a number behind.
func (l *laid) num(n uint64) {
	*l = append(*l, octet.PutNum(nil, n)...)
}

// signed lays a number with a sign behind.
func (l *laid) signed(n int64) {
	*l = append(*l, octet.PutInt(nil, n)...)
}

// truth lays 1 behind for what is so, else 0.
func (l *laid) truth(so bool) {
	if so {
		l.num(1)
		return
	}
	l.num(0)
}

// words lays behind how many words there are, and each.
func (l *laid) words(words []int32) {
	l.num(uint64(len(words)))
	for _, n := range words {
		l.signed(int64(n))
	}
}

// Encode: a position's bytes.
func Encode(p Position) []byte {
	var l laid
	l.words(p.Vars)
	l.num(uint64(len(p.Gone)))
	for _, gone := range p.Gone {
		l.truth(gone)
	}
	l.num(uint64(len(p.Tips)))
	for _, tip := range p.Tips {
		l.num(hash.Num(tip))
	}
	for _, n := range [...]int{p.Roll.Cell, p.Roll.Sides, p.Roll.Mover, p.Roll.Next} {
		l.signed(int64(n))
	}
	l.num(p.Roll.Sum)
	return l
}

// Decode: the position of bytes.
func Decode(b []byte) (Position, api.Errno) {
	r := octet.NewReader(b)
	var p Position
	vars, err := words(r, mostCells)
	if err != api.OK {
		return Position{}, err
	}
	p.Vars = vars
	for range r.Num(mostSeats) {
		p.Gone = append(p.Gone, r.Num(1) == 1)
	}
	for range r.Num(mostSeats) {
		p.Tips = append(p.Tips, hash.FromNum(r.Num(math.MaxUint64)))
	}
	p.Roll = Roll{Cell: int(r.Int()), Sides: int(r.Int()), Mover: int(r.Int()), Next: int(r.Int()), Sum: r.Num(math.MaxUint64)}
	if err := r.End(); err != api.OK {
		return Position{}, err
	}
	return p, api.OK
}

// words reads how many int32 there are, and each; what the reader's error is, its End tells.
func words(r *octet.Reader, most uint64) ([]int32, api.Errno) {
	var l []int32
	for range r.Num(most) {
		n := r.Int()
		if n < math.MinInt32 || n > math.MaxInt32 {
			return nil, api.ErrRange
		}
		l = append(l, int32(n))
	}
	return l, api.OK
}

// Of: a position's digest.
func Of(p Position) hash.Digest {
	return hash.Of(Encode(p))
}

// EncodeMove: a move's bytes.
func EncodeMove(m Move) []byte {
	var l laid
	l.truth(m.Throw)
	if m.Throw {
		l.num(hash.Num(m.Reveal))
	} else {
		l.words(m.Args)
	}
	return l
}

// DecodeMove: the move of bytes.
func DecodeMove(b []byte) (Move, api.Errno) {
	r := octet.NewReader(b)
	m := Move{Throw: r.Num(1) == 1}
	if m.Throw {
		m.Reveal = hash.FromNum(r.Num(math.MaxUint64))
	} else {
		args, err := words(r, mostArgs)
		if err != api.OK {
			return Move{}, err
		}
		m.Args = args
	}
	if err := r.End(); err != api.OK {
		return Move{}, err
	}
	return m, api.OK
}

// SameMove: are moves?
func SameMove(a, b Move) bool {
	return bytes.Equal(EncodeMove(a), EncodeMove(b))
}
