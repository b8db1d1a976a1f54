package checker

import (
	"slices"

	"baize/game"
	"baize/hash"
)

// nobody has the turn when it is over.
const nobody = -1

// deed is what somebody does, or doesn't do, at a position: it gives the one behind it. It is one that the rules let.
type deed func(p game.Position) game.Position

// Next: the positions that may come next of one, each once, in order; who moves (-1: it is over).
func Next(r *game.Rules, p game.Position) ([]game.Position, int) {
	turn := r.Turn(p)
	if turn == nobody {
		return nil, nobody
	}
	known := map[string]bool{}
	return slices.DeleteFunc(comes(r, p, turn, r.Moves(p)), func(next game.Position) bool {
		key := string(game.Encode(next))
		twice := known[key]
		known[key] = true
		return twice
	}), turn
}

// Moves: the menu of a position: all moves that the rules let, in order.
func Moves(r *game.Rules, p game.Position) []game.Move {
	return r.Moves(p)
}

// rolls tells whether a throw is to be done.
func rolls(p game.Position) bool {
	return p.Roll != game.Roll{}
}

// comes gives what may come next of a position that isn't over, whose moves these are; some of it more than once.
func comes(r *game.Rules, p game.Position, turn int, moves []game.Move) []game.Position {
	var list []game.Position
	add := func(d deed) { list = append(list, behind(p, d)...) }
	for _, m := range moves {
		add(func(p game.Position) game.Position { return plays(r, p, turn, m) })
	}
	if rolls(p) {
		add(func(p game.Position) game.Position { return shows(r, p, turn) })
	}
	for who, gone := range p.Gone {
		if !gone {
			add(func(p game.Position) game.Position { return falls(r, p, who) })
		}
	}
	return list
}

// plays gives the position behind a seat's move.
func plays(r *game.Rules, p game.Position, seat int, m game.Move) game.Position {
	next, _ := r.Do(p, seat, m)
	return next
}

// shows gives the position behind a seat's showing the number 0, with all tips as they were.
func shows(r *game.Rules, p game.Position, seat int) game.Position {
	zero := hash.FromNum(0)
	open := game.Clone(p)
	open.Tips[seat] = hash.One(zero) // which that number fulfils
	next := plays(r, open, seat, game.Move{Throw: true, Reveal: zero})
	copy(next.Tips, p.Tips)
	return next
}

// falls gives the position behind a seat's silence.
func falls(r *game.Rules, p game.Position, who int) game.Position {
	next, _ := r.Silence(p, who)
	return next
}

// behind gives what a deed leads to: one position, or, if a throw is done by it, all its faces.
func behind(p game.Position, d deed) []game.Position {
	next := d(p)
	if rolls(p) && !rolls(next) {
		return faces(p, d)
	}
	return []game.Position{next}
}

// faces gives what a deed by which a throw is done leads to, whatever the throw comes to.
func faces(p game.Position, d deed) []game.Position {
	cell := p.Roll.Cell
	come := func(face int) game.Position { // a throw comes to what its sum says
		summed := p
		summed.Roll.Sum = uint64(face - 1)
		return d(summed)
	}
	first, last := come(1), come(p.Roll.Sides)
	list := []game.Position{first}
	// Cut into a range, one face behind the other is the same, or more by 1: so all between the first one and the last one are there.
	for n := int(first.Vars[cell]) + 1; n <= int(last.Vars[cell]); n++ {
		next := game.Clone(first)
		next.Vars[cell] = int32(n)
		list = append(list, next)
	}
	return list
}
