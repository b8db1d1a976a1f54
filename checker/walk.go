package checker

import (
	"slices"

	"baize/game"
)

// walk is what was come to of rules, position by position, up to so many.
type walk struct {
	rules  *game.Rules
	most   int
	list   []game.Position
	places map[string]int32 // where in the list a position stands, by its bytes
	ways   [][]int32        // of each position of the list where those stand that may come next of it
	whole  bool             // none was left out
}

// newWalk gives a walk that has come to the first position alone.
func newWalk(r *game.Rules, most int, first game.Position) *walk {
	w := &walk{rules: r, most: most, places: map[string]int32{}, whole: true}
	w.place(first)
	return w
}

// place tells where a position stands, which is behind all others, if it wasn't there yet; false: there is no room.
func (w *walk) place(p game.Position) (int32, bool) {
	key := string(game.Encode(p))
	at, there := w.places[key]
	if there {
		return at, true
	}
	if len(w.list) == w.most {
		return 0, false
	}
	at = int32(len(w.list))
	w.places[key] = at
	w.list = append(w.list, p)
	w.ways = append(w.ways, nil)
	return at, true
}

// goOn goes through all positions, and tells each, with whose turn it is and what it may play.
func (w *walk) goOn(tell func(p game.Position, turn int, moves []game.Move)) {
positions:
	for i := 0; i < len(w.list); i++ {
		p := w.list[i]
		turn, moves := w.rules.Turn(p), w.rules.Moves(p)
		tell(p, turn, moves)
		if turn == nobody || !w.whole { // once one is left out, so are all that aren't there yet
			continue positions
		}
		for _, next := range comes(w.rules, p, turn, moves) {
			at, room := w.place(next)
			if !room {
				w.whole = false
				continue positions
			}
			w.ways[i] = append(w.ways[i], at)
		}
	}
}

// longest tells how many steps the longest way has; -1, if not all positions are known, or a way comes to where it was.
func (w *walk) longest() int {
	if !w.whole {
		return -1
	}
	into := make([]int, len(w.list)) // of each position, from how many it is come to
	for _, ways := range w.ways {
		for _, to := range ways {
			into[to]++
		}
	}
	var done []int32 // those all ways to which are known
	steps := make([]int, len(w.list))
	if into[0] == 0 {
		done = append(done, 0)
	}
	for i := 0; i < len(done); i++ {
		from := done[i]
		for _, to := range w.ways[from] {
			steps[to] = max(steps[to], steps[from]+1)
			if into[to]--; into[to] == 0 {
				done = append(done, to)
			}
		}
	}
	if len(done) < len(w.list) {
		return -1
	}
	return slices.Max(steps)
}
