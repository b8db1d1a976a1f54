package print

import (
	"strconv"
	"strings"

	"baize/syntax"
)

// exprs is how many expressions each kind of statement has.
var exprs = [...]int{
	syntax.Assign: 1,
	syntax.Put:    2,
	syntax.If:     1,
	syntax.For:    0,
	syntax.Refuse: 0,
	syntax.Roll:   0,
	syntax.Seat:   1,
	syntax.Over:   0,
	syntax.Pay:    2,
	syntax.Rest:   1,
}

// block writes the lines of statements that stand so deep.
func (w *writer) block(l []syntax.Stmt, deep int) {
	for _, s := range l {
		if s.Kind < 0 || s.Kind >= len(exprs) || len(s.E) != exprs[s.Kind] {
			w.wrong = true
		}
		if w.stopped() {
			return
		}
		w.statement(s, w.texts(s.E), deep)
	}
}

// statement writes one of which the texts of its expressions are told.
func (w *writer) statement(s syntax.Stmt, e []string, deep int) {
	switch s.Kind {
	case syntax.Assign:
		w.line(deep, s.Name, "=", e[0])
	case syntax.Put:
		w.line(deep, s.Name, "[", e[0], "]", "=", e[1])
	case syntax.If:
		w.line(deep, "if", e[0], "then")
		w.block(s.L, deep+1)
		if len(s.Else) > 0 {
			w.line(deep, "else")
			w.block(s.Else, deep+1)
		}
		w.line(deep, "end")
	case syntax.For:
		w.line(deep, "for", s.Name, strconv.Itoa(s.Low), strconv.Itoa(s.High), "do")
		w.block(s.L, deep+1)
		w.line(deep, "end")
	case syntax.Refuse:
		w.line(deep, "refuse")
	case syntax.Roll:
		w.line(deep, "roll", s.Name, strconv.Itoa(s.Low))
	case syntax.Seat:
		w.line(deep, "seat", e[0])
	case syntax.Over:
		w.line(deep, "over")
	case syntax.Pay:
		w.line(deep, "pay", e[0], second(e[1]))
	case syntax.Rest:
		w.line(deep, "rest", e[0])
	}
}

// second gives the text of a pay's second expression: the first one would go on with a - with which it begins.
func second(text string) string {
	if strings.HasPrefix(text, "-") {
		return "( " + text + " )"
	}
	return text
}

// texts gives those of expressions.
func (w *writer) texts(l []syntax.Expr) []string {
	var texts []string
	for _, e := range l {
		one := writer{most: w.most}
		one.expr(e)
		w.wrong = w.wrong || one.wrong
		texts = append(texts, one.String())
	}
	return texts
}
