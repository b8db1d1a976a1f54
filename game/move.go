package game

import (
	"slices"

	"baize/api"
	"baize/compile"
	"baize/hash"
)

// Do: the position behind a seat's move.
func (r *Rules) Do(p Position, seat int, m Move) (Position, api.Errno) {
	if err := r.Check(p); err != api.OK {
		return Position{}, err
	}
	switch turn := r.turn(p); {
	case turn == nobody:
		return Position{}, api.ErrOver
	case turn != seat:
		return Position{}, api.ErrTurn
	case p.rolls():
		return r.throw(p, m)
	}
	return r.play(p, seat, m)
}

// throw gives the position behind what whose turn it is shows for a throw.
func (r *Rules) throw(p Position, m Move) (Position, api.Errno) {
	seat := p.Roll.Next
	if !m.Throw {
		return Position{}, api.ErrMove
	}
	if hash.One(m.Reveal) != p.Tips[seat] {
		return Position{}, api.ErrOpen
	}
	next := Clone(p)
	next.Tips[seat] = m.Reveal
	next.Roll.Sum += hash.Num(m.Reveal)
	r.goOn(&next)
	return next, api.OK
}

// play gives the position behind a seat's move that plays.
func (r *Rules) play(p Position, seat int, m Move) (Position, api.Errno) {
	if m.Throw {
		return Position{}, api.ErrMove
	}
	out, may := r.lets(p, m.Args)
	if !may {
		return Position{}, api.ErrMove
	}
	next := Clone(p)
	next.Vars = out.Vars
	if out.Sides != 0 {
		next.Roll = Roll{Cell: out.Cell, Sides: out.Sides, Mover: seat, Next: stays(p.Gone, seat, len(p.Gone))}
	}
	return next, api.OK
}

// lets tells what play comes to with arguments, and whether it lets them.
func (r *Rules) lets(p Position, args []int32) (compile.Out, bool) {
	out, err := r.code.Run(compile.Play, p.Vars, args)
	return out, err == api.OK && !out.Refused
}

// goOn has the next seat show for a throw, or, if there is none, the throw done.
func (r *Rules) goOn(p *Position) {
	t := p.Roll
	behind := (t.Mover - t.Next + r.seats) % r.seats // how many stand behind this seat, up to the mover
	if next := stays(p.Gone, t.Next, behind); next != nobody {
		p.Roll.Next = next
		return
	}
	span := r.spans[t.Cell]
	p.Vars[t.Cell] = min(max(int32(1+t.Sum%uint64(t.Sides)), span[0]), span[1])
	p.Roll = Roll{}
}

// stays gives the first one of so many seats behind a seat, round, that isn't gone; or nobody.
func stays(gone []bool, seat, count int) int {
	for range count {
		seat = (seat + 1) % len(gone)
		if !gone[seat] {
			return seat
		}
	}
	return nobody
}

// Silence: the position behind a seat's silence.
func (r *Rules) Silence(p Position, who int) (Position, api.Errno) {
	if err := r.Check(p); err != api.OK {
		return Position{}, err
	}
	switch {
	case !r.seat(who):
		return Position{}, api.ErrSeat
	case r.turn(p) == nobody:
		return Position{}, api.ErrOver
	case p.Gone[who]:
		return Position{}, api.ErrTwice
	}
	out, err := r.code.Run(compile.Silent, p.Vars, []int32{int32(who)})
	if err != api.OK {
		return Position{}, err
	}
	next := Clone(p)
	next.Vars = out.Vars
	next.Gone[who] = true
	if p.rolls() && p.Roll.Next == who {
		r.goOn(&next)
	}
	return next, api.OK
}

// Moves: all moves that whose turn it is may play (no throws).
func (r *Rules) Moves(p Position) []Move {
	if r.Turn(p) == nobody || p.rolls() {
		return nil
	}
	var l []Move
	next := r.choices()
menu:
	for args, is := next(); is; args, is = next() {
		if _, may := r.lets(p, args); !may {
			continue menu
		}
		l = append(l, Move{Args: args})
	}
	return l
}

// choices gives a function that tells all arguments of the menu, one by one, the last one changing first.
func (r *Rules) choices() func() ([]int32, bool) {
	args := make([]int32, len(r.menu))
	for i, span := range r.menu {
		args[i] = span[0]
	}
	more := true
	return func() ([]int32, bool) {
		if !more {
			return nil, false
		}
		told := slices.Clone(args)
		more = r.advance(args)
		return told, true
	}
}

// advance makes the next arguments of the menu out of some; false: these were the last ones.
func (r *Rules) advance(args []int32) bool {
	for i := len(args) - 1; i >= 0; i-- {
		if args[i] < r.menu[i][1] {
			args[i]++
			return true
		}
		args[i] = r.menu[i][0]
	}
	return false
}
