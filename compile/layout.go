package compile

import (
	"math"

	"baize/sorts"
	"baize/syntax"
)

// layout is where a program's words stand, in all of its parts: the cells first, behind them the arguments, then what a part comes to, and then all else.
type layout struct {
	cells  int // how many; so the arguments' first word, too
	seats  int
	result int // the first word of what a part comes to: a seat, a throw's cell, or what is asked for seat 0
}

// lay gives a program's.
func lay(p syntax.Program) layout {
	cells := sorts.Cells(p)
	return layout{cells: cells, seats: p.Seats, result: cells + max(len(p.Params), 1)}
}

// sides is the word of a throw's.
func (l layout) sides() int { return l.result + 1 }

// rest is the word of the seat to which the rest goes, behind what is asked for each seat.
func (l layout) rest() int { return l.result + l.seats }

// free is the first word that stands for nothing yet.
func (l layout) free() int { return l.rest() + 1 }

// span is from where to where an argument goes.
type span struct{ low, high int32 }

// arguments gives those that a part has, as variables.
func arguments(p syntax.Program, part int) []syntax.Var {
	switch part {
	case Play:
		return p.Params
	case Silent:
		return []syntax.Var{{Name: p.Silent, Low: math.MinInt32, High: math.MaxInt32}}
	}
	return nil
}

// spans gives those of arguments.
func spans(l []syntax.Var) []span {
	var out []span
	for _, v := range l {
		out = append(out, span{int32(v.Low), int32(v.High)})
	}
	return out
}

// size is how many cells a variable has.
func size(v syntax.Var) int { return max(v.Size, 1) }

// firstCells gives each cell's 0, cut into its range.
func firstCells(p syntax.Program) []int32 {
	var first []int32
	for _, v := range p.Vars {
		for range size(v) {
			first = append(first, int32(min(max(0, v.Low), v.High)))
		}
	}
	return first
}
