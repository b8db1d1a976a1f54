package print

import (
	"strconv"
	"strings"

	"baize/syntax"
)

// writer puts a text together.
type writer struct {
	strings.Builder
	most  int  // how long the text may be: behind that nothing is written
	wrong bool // whether there is something that has no text
}

// stopped tells whether nothing that is still written would count.
func (w *writer) stopped() bool {
	return w.wrong || w.Len() > w.most
}

// line writes a line that stands so deep.
func (w *writer) line(deep int, pieces ...string) {
	if w.stopped() {
		return
	}
	for range deep {
		w.WriteString("  ")
	}
	w.WriteString(strings.Join(pieces, " "))
	w.WriteByte('\n')
}

// program writes a program's lines.
func (w *writer) program(p syntax.Program) {
	w.line(0, "game", p.Name)
	w.line(0, "seats", strconv.Itoa(p.Seats))
	w.line(0, behind("stake", numbers(p.Stakes...)...)...)
	for _, v := range p.Vars {
		w.line(0, variable(v)...)
	}
	w.part(p.Start, "start")
	w.part(p.Turn, "turn")
	w.part(p.Play, behind("play", parameters(p.Params)...)...)
	w.part(p.Quiet, "silent", p.Silent)
	w.part(p.Pays, "pay")
}

// part writes the line with which a part begins, its statements, and its end.
func (w *writer) part(l []syntax.Stmt, pieces ...string) {
	w.line(0, pieces...)
	w.block(l, 1)
	w.line(0, "end")
}

// behind gives a word and the pieces behind it.
func behind(word string, pieces ...string) []string {
	return append([]string{word}, pieces...)
}

func numbers(l ...int) []string {
	var pieces []string
	for _, n := range l {
		pieces = append(pieces, strconv.Itoa(n))
	}
	return pieces
}

func variable(v syntax.Var) []string {
	pieces := []string{"var", v.Name}
	if v.Size != 0 {
		pieces = append(pieces, "[", strconv.Itoa(v.Size), "]")
	}
	return append(pieces, numbers(v.Low, v.High)...)
}

// parameters gives those of play, each with a comma at its end, but the last one.
func parameters(l []syntax.Var) []string {
	var pieces []string
	for i, v := range l {
		if i > 0 {
			pieces[len(pieces)-1] += ","
		}
		pieces = append(pieces, behind(v.Name, numbers(v.Low, v.High)...)...)
	}
	return pieces
}
