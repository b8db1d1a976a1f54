// Package coin is layer 3: see shared/doc/03-coin.md.
package coin

import "baize/api"

// Most is the greatest amount.
const Most = 1 << 50

// MostSeats is how many seats there may be.
const MostSeats = 8

// mostWeight is the greatest weight: with it an amount still fits into an int.
const mostWeight = 1 << 10

// Right: may it be an amount?
func Right(n int) bool {
	return 0 <= n && n <= Most
}

// Add: two amounts together.
func Add(a, b int) (int, api.Errno) {
	if !Right(a) || !Right(b) || !Right(a+b) {
		return 0, api.ErrRange
	}
	return a + b, api.OK
}

// Sub: an amount less another one.
func Sub(a, b int) (int, api.Errno) {
	if !Right(a) || !Right(b) {
		return 0, api.ErrRange
	}
	if b > a {
		return 0, api.ErrFunds
	}
	return a - b, api.OK
}

// Sum: all amounts together.
func Sum(l []int) (int, api.Errno) {
	total := 0
	for _, n := range l {
		next, err := Add(total, n)
		if err != api.OK {
			return 0, err
		}
		total = next
	}
	return total, api.OK
}

// Split: an amount in parts, by weights.
func Split(total int, weights []int) ([]int, api.Errno) {
	if !Right(total) {
		return nil, api.ErrRange
	}
	all, err := weigh(weights)
	if err != api.OK {
		return nil, err
	}
	parts := make([]int, len(weights))
	left := total
	for i, w := range weights {
		parts[i] = total * w / all
		left -= parts[i]
	}
ones:
	for i, w := range weights {
		switch {
		case left == 0:
			break ones
		case w > 0:
			parts[i]++
			left--
		}
	}
	return parts, api.OK
}

// weigh gives all weights together, if they may be.
func weigh(weights []int) (int, api.Errno) {
	if len(weights) < 1 || len(weights) > MostSeats {
		return 0, api.ErrArg
	}
	all := 0
	for _, w := range weights {
		if w < 0 || w > mostWeight {
			return 0, api.ErrRange
		}
		all += w
	}
	if all == 0 {
		return 0, api.ErrArg
	}
	return all, api.OK
}
