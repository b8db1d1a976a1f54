package game

import (
	"slices"

	"baize/api"
	"baize/coin"
	"baize/compile"
	"baize/hash"
)

const (
	// nobody has the turn when it is over.
	nobody = -1
	// A throw's sides.
	leastSides = 2
	mostSides  = 1000
)

// Start: its first position, of seats with these tips.
func (r *Rules) Start(tips []hash.Digest) (Position, api.Errno) {
	if r.none() {
		return Position{}, api.ErrArg
	}
	if len(tips) != r.seats {
		return Position{}, api.ErrForm
	}
	out, err := r.code.Run(compile.Start, nil, nil)
	if err != api.OK {
		return Position{}, err
	}
	return Position{Vars: out.Vars, Gone: make([]bool, r.seats), Tips: slices.Clone(tips)}, api.OK
}

// Check: may a position be one of this game?
func (r *Rules) Check(p Position) api.Errno {
	if r.none() {
		return api.ErrArg
	}
	if len(p.Vars) != len(r.spans) || len(p.Gone) != r.seats || len(p.Tips) != r.seats {
		return api.ErrForm
	}
	for i, v := range p.Vars {
		if v < r.spans[i][0] || v > r.spans[i][1] {
			return api.ErrRange
		}
	}
	if p.rolls() && !r.mayRoll(p) {
		return api.ErrRange
	}
	return api.OK
}

// rolls tells whether a throw is to be done.
func (p Position) rolls() bool {
	return p.Roll != Roll{}
}

// mayRoll tells whether the throw of a position may be one of this game.
func (r *Rules) mayRoll(p Position) bool {
	t := p.Roll
	return t.Cell >= 0 && t.Cell < len(r.spans) && t.Sides >= leastSides && t.Sides <= mostSides &&
		r.seat(t.Mover) && r.seat(t.Next) && !p.Gone[t.Next]
}

// seat tells whether it is one.
func (r *Rules) seat(n int) bool {
	return n >= 0 && n < r.seats
}

// Turn: whose turn it is; -1: nobody's, it is over.
func (r *Rules) Turn(p Position) int {
	if r.Check(p) != api.OK {
		return nobody
	}
	return r.turn(p)
}

// turn is Turn of a position that may be.
func (r *Rules) turn(p Position) int {
	if p.rolls() {
		return p.Roll.Next
	}
	out, err := r.code.Run(compile.Turn, p.Vars, nil)
	if err != api.OK || !r.seat(out.Seat) || p.Gone[out.Seat] {
		return nobody
	}
	return out.Seat
}

// Pays: what each seat gets of a pot, once it is over.
func (r *Rules) Pays(p Position, pot int) ([]int, api.Errno) {
	if err := r.Check(p); err != api.OK {
		return nil, err
	}
	if r.turn(p) != nobody {
		return nil, api.ErrState
	}
	left, err := coin.NewPot(pot, r.seats)
	if err != api.OK {
		return nil, err
	}
	out, err := r.code.Run(compile.Pay, p.Vars, nil)
	if err != api.OK {
		return nil, err
	}
	for seat, ask := range out.Asks {
		left.Pay(seat, int(ask))
	}
	return left.Rest(out.Rest), api.OK
}

// Same: are positions?
func Same(a, b Position) bool {
	return slices.Equal(a.Vars, b.Vars) && slices.Equal(a.Gone, b.Gone) && slices.Equal(a.Tips, b.Tips) && a.Roll == b.Roll
}

// Clone: one that shares nothing.
func Clone(p Position) Position {
	return Position{Vars: slices.Clone(p.Vars), Gone: slices.Clone(p.Gone), Tips: slices.Clone(p.Tips), Roll: p.Roll}
}
