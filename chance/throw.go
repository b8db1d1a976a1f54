package chance

import (
	"baize/api"
	"baize/hash"
)

// Fulfils tells whether a reveal fulfils a tip.
func Fulfils(tip, reveal hash.Digest) bool {
	return hash.One(reveal) == tip
}

// Order gives the seats that reveal, in order, behind a mover.
func Order(mover int, gone []bool) []int {
	if mover < 0 || mover >= len(gone) {
		return nil
	}
	var seats []int
	pick := func(from, to int) {
		for seat := from; seat < to; seat++ {
			if !gone[seat] {
				seats = append(seats, seat)
			}
		}
	}
	pick(mover+1, len(gone))
	pick(0, mover+1)
	return seats
}

// Throw gives what reveals throw, of so many sides.
func Throw(sides int, reveals []hash.Digest) (int, api.Errno) {
	if !mayThrow(sides) {
		return 0, api.ErrRange
	}
	return 1 + int(sum(reveals)%uint64(sides)), api.OK
}

// Needed gives the least number of a reveal by which a throw would be that, with the others.
func Needed(sides, want int, others []hash.Digest) (uint64, api.Errno) {
	if !mayThrow(sides) || want < 1 || want > sides {
		return 0, api.ErrRange
	}
	all, round, rest := sum(others), uint64(sides), uint64(want-1)
	n := (rest + round - all%round) % round
	if all+n < all { // the sum goes round at 2^64 ahead of that, and begins again at 0
		n = -all + rest
	}
	return n, api.OK
}

// mayThrow tells whether there are throws of so many sides.
func mayThrow(sides int) bool {
	return sides >= 1 && sides <= mostSides
}

// sum gives the numbers of reveals, all together modulo 2^64.
func sum(reveals []hash.Digest) uint64 {
	var all uint64
	for _, d := range reveals {
		all += hash.Num(d)
	}
	return all
}
