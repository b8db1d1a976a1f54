// Package octet is layer 1: see shared/doc/01-octet.md.
package octet

import (
	"math"
	"slices"

	"baize/api"
)

const (
	// more is the bit by which a byte tells that another one follows.
	more = 1 << 7
	// mostSize is how many bytes the greatest number has.
	mostSize = 10
)

// PutNum: bytes, and a number's behind them.
func PutNum(b []byte, n uint64) []byte {
	out := make([]byte, len(b), len(b)+mostSize)
	copy(out, b)
	for ; n >= more; n >>= 7 {
		out = append(out, byte(n)|more)
	}
	return append(out, byte(n))
}

// PutInt: bytes, and a number's with a sign behind them.
func PutInt(b []byte, n int64) []byte {
	// The second part is all ones below 0, which makes -2 n - 1 out of 2 n.
	return PutNum(b, uint64(n)<<1^uint64(n>>63))
}

// PutBytes: bytes, and others' with how many they are behind them.
func PutBytes(b, x []byte) []byte {
	return append(PutNum(b, uint64(len(x))), x...)
}

// PutText: likewise a text's.
func PutText(b []byte, s string) []byte {
	return append(PutNum(b, uint64(len(s))), s...)
}

// Reader reads bytes from the left.
type Reader struct {
	left []byte // from the place on
	err  api.Errno
}

// NewReader: one of bytes.
func NewReader(b []byte) *Reader {
	return &Reader{left: slices.Clone(b)}
}

// Num: a number, not above the most.
func (r *Reader) Num(most uint64) uint64 {
	return read(r, func(left []byte) (uint64, int, api.Errno) {
		n, size, err := number(left)
		if err == api.OK && n > most {
			err = api.ErrRange
		}
		return n, size, err
	})
}

// Int: a number with a sign.
func (r *Reader) Int() int64 {
	n := r.Num(math.MaxUint64)
	return int64(n>>1) ^ -int64(n&1)
}

// Bytes: at most so many bytes.
func (r *Reader) Bytes(most int) []byte {
	return read(r, func(left []byte) ([]byte, int, api.Errno) {
		count, size, err := number(left)
		switch {
		case err != api.OK:
			return nil, 0, err
		case count > uint64(max(most, 0)):
			return nil, 0, api.ErrRange
		case count > uint64(len(left)-size):
			return nil, 0, api.ErrShort
		}
		end := size + int(count)
		return slices.Clone(left[size:end]), end, api.OK
	})
}

// Text: a text of at most so many bytes.
func (r *Reader) Text(most int) string {
	return string(r.Bytes(most))
}

// Left: how many bytes are left.
func (r *Reader) Left() int {
	if r == nil {
		return 0
	}
	return len(r.left)
}

// Err: the first error.
func (r *Reader) Err() api.Errno {
	if r == nil {
		return api.ErrArg
	}
	return r.err
}

// End: that nothing is left.
func (r *Reader) End() api.Errno {
	if err := r.Err(); err != api.OK {
		return err
	}
	if r.Left() > 0 {
		return api.ErrLong
	}
	return api.OK
}

// read goes on behind what look found, but stays at an error: look tells the
// value, how many bytes it took, and its error.
func read[T any](r *Reader, look func(left []byte) (T, int, api.Errno)) T {
	var none T
	if r.Err() != api.OK {
		return none
	}
	value, size, err := look(r.left)
	if err != api.OK {
		r.err = err
		return none
	}
	r.left = r.left[size:]
	return value
}

// number tells the number at the front of bytes, and how many of them it has.
func number(b []byte) (uint64, int, api.Errno) {
	var n uint64
	err := api.ErrShort
sevens:
	for i, x := range b {
		n |= uint64(x&^more) << (7 * i)
		switch {
		case i > 0 && x == 0, i == mostSize-1 && x > 1: // nine bytes hold 63 of the 64 bits
			err = api.ErrForm
			break sevens
		case x < more:
			return n, i + 1, api.OK
		}
	}
	return 0, 0, err
}
