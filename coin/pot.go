package coin

import (
	"slices"

	"baize/api"
)

// Pot is an amount that is paid out to seats.
type Pot struct {
	left  int
	seats int
	pays  [MostSeats]int // of seats that aren't there always 0
}

// NewPot: one of an amount, for so many seats.
func NewPot(amount, seats int) (*Pot, api.Errno) {
	if !Right(amount) {
		return nil, api.ErrRange
	}
	if seats < 1 || seats > MostSeats {
		return nil, api.ErrArg
	}
	return &Pot{left: amount, seats: seats}, api.OK
}

// Pay: a seat has so much of it, as far as it goes; how much that is.
func (p *Pot) Pay(seat, ask int) int {
	if p == nil {
		return 0
	}
	if seat < 0 || seat >= p.seats {
		seat = 0
	}
	paid := min(max(ask, 0), p.left)
	p.pays[seat] += paid
	p.left -= paid
	return paid
}

// Rest: a seat has what is left, and nothing is; what each seat has.
func (p *Pot) Rest(seat int) []int {
	p.Pay(seat, p.Left())
	return p.Pays()
}

// Left: what is left.
func (p *Pot) Left() int {
	if p == nil {
		return 0
	}
	return p.left
}

// Pays: what each seat has.
func (p *Pot) Pays() []int {
	if p == nil {
		return nil
	}
	return slices.Clone(p.pays[:p.seats])
}

// Clone: one that is the same.
func (p *Pot) Clone() *Pot {
	if p == nil {
		return nil
	}
	other := *p
	return &other
}

// Same: are both the same?
func (p *Pot) Same(o *Pot) bool {
	if p == nil || o == nil {
		return p == o
	}
	return *p == *o
}
