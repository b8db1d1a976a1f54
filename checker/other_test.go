package checker_test

import (
	"fmt"
	"slices"
	"strings"
	"testing"

	"baize/api"
	"baize/checker"
	"baize/compile"
	"baize/game"
	"baize/hash"
	"baize/syntax"
)

// rules are a game's, piece by piece; what isn't told is as little as may be.
type rules struct {
	vars, start, turn, play, quiet, pays string
	seats                                int
}

// text gives the rules as one.
func (r rules) text() string {
	if r.turn == "" {
		r.turn = "over"
	}
	if r.pays == "" {
		r.pays = "rest 0"
	}
	seats := max(r.seats, 2)
	return fmt.Sprint("game g seats ", seats, " stake", strings.Repeat(" 5", seats), " ", r.vars, " start ", r.start, " end turn ", r.turn, " end play ", r.play, " end silent who ", r.quiet, " end pay ", r.pays, " end")
}

// parsed gives the rules of a text.
func parsed(t *testing.T, text string) *game.Rules {
	t.Helper()
	g, err := game.Parse(text)
	if err != api.OK || g == nil {
		t.Fatalf("%s: %s", text, err.Word())
	}
	return g
}

// other is another look at what may come of rules, by the chapter's words: it
// knows the cells' ranges from the tree, does throws for itself, and looks for
// positions one by one.
type other struct {
	g         *game.Rules
	low, high []int32
}

// look gives one at the rules of a text.
func look(t *testing.T, text string) other {
	t.Helper()
	o := other{g: parsed(t, text)}
	tree, _, _ := syntax.Parse(text)
	for _, v := range tree.Vars {
		for range max(v.Size, 1) {
			o.low, o.high = append(o.low, int32(v.Low)), append(o.high, int32(v.High))
		}
	}
	return o
}

// went gives what comes behind the one who has to show next: the next one's turn, or each face.
func (o other) went(p game.Position) []game.Position {
	seats := len(p.Gone)
	for seat := p.Roll.Next; seat != p.Roll.Mover; {
		seat = (seat + 1) % seats
		if !p.Gone[seat] {
			p.Roll.Next = seat
			return []game.Position{p}
		}
	}
	var l []game.Position
	for face := 1; face <= p.Roll.Sides; face++ {
		q := game.Clone(p)
		q.Roll = game.Roll{}
		q.Vars[p.Roll.Cell] = max(o.low[p.Roll.Cell], min(int32(face), o.high[p.Roll.Cell]))
		l = append(l, q)
	}
	return l
}

// next is another look at Next.
func (o other) next(p game.Position) ([]game.Position, int) {
	turn := o.g.Turn(p)
	if turn == -1 {
		return nil, -1
	}
	var all []game.Position
	throw := p.Roll != game.Roll{}
	for _, m := range o.g.Moves(p) {
		q, _ := o.g.Do(p, turn, m)
		all = append(all, q)
	}
	if throw {
		all = append(all, o.went(game.Clone(p))...)
	}
	for who, gone := range p.Gone {
		if gone {
			continue
		}
		q := game.Clone(p)
		out, _ := o.g.Code().Run(compile.Silent, p.Vars, []int32{int32(who)})
		q.Vars = out.Vars
		q.Gone[who] = true
		if throw && who == turn {
			all = append(all, o.went(q)...)
		} else {
			all = append(all, q)
		}
	}
	var l []game.Position
	for _, q := range all {
		if find(l, q) == -1 {
			l = append(l, q)
		}
	}
	return l, turn
}

// find tells where a position stands among others; -1: nowhere.
func find(l []game.Position, p game.Position) int {
	return slices.IndexFunc(l, func(q game.Position) bool { return game.Same(p, q) })
}

// walk is another look at Walk; it gives the positions, too.
func (o other) walk(most int) (checker.Report, []game.Position) {
	first, _ := o.g.Start(make([]hash.Digest, o.g.Seats()))
	l := []game.Position{first}
	pot := 5 * o.g.Seats()
	report := checker.Report{Whole: true, Least: make([]int, o.g.Seats()), Most: make([]int, o.g.Seats())}
	for i := 0; i < len(l); i++ {
		next, turn := o.next(l[i])
		for _, q := range next {
			if find(l, q) != -1 {
				continue
			}
			if len(l) < most {
				l = append(l, q)
			} else {
				report.Whole = false
			}
		}
		if turn == -1 {
			pays, _ := o.g.Pays(l[i], pot)
			for seat, n := range pays {
				if report.Overs == 0 || n < report.Least[seat] {
					report.Least[seat] = n
				}
				report.Most[seat] = max(report.Most[seat], n)
			}
			report.Overs++
		} else if l[i].Roll == (game.Roll{}) && len(o.g.Moves(l[i])) == 0 {
			report.Stuck = append(report.Stuck, l[i])
		}
	}
	report.Positions = len(l)
	report.Long = -1
	if report.Whole {
		report.Long = o.long(l)
	}
	return report, l
}

// long is how many steps the longest way through positions has; -1, if there is none. It goes every way, but no place twice.
func (o other) long(l []game.Position) int {
	const (
		unseen = -2
		within = -1
	)
	far := slices.Repeat([]int{unseen}, len(l)) // from each one on
	var from func(i int) bool
	from = func(i int) bool {
		if far[i] != unseen {
			return far[i] != within
		}
		far[i] = within
		most := 0
		next, _ := o.next(l[i])
		for _, q := range next {
			at := find(l, q)
			if !from(at) {
				return false
			}
			most = max(most, far[at]+1)
		}
		far[i] = most
		return true
	}
	if !from(0) {
		return -1
	}
	return far[0]
}

// told gives positions, a list that is nil as one that is empty.
func told(l []game.Position) string { return fmt.Sprintf("%+v", l) }

// sameReport tells whether two are the same.
func sameReport(a, b checker.Report) bool {
	return fmt.Sprintf("%+v", a) == fmt.Sprintf("%+v", b)
}

// holdNext looks whether Next and Moves answer what the other look does.
func (o other) holdNext(t *testing.T, p game.Position) []game.Position {
	t.Helper()
	was := told([]game.Position{p})
	want, turn := o.next(p)
	got, who := checker.Next(o.g, p)
	if told(got) != told(want) || who != turn {
		t.Errorf("%s: %s, of %d; want %s, of %d", was, told(got), who, told(want), turn)
	}
	if got, want := checker.Moves(o.g, p), o.g.Moves(p); fmt.Sprintf("%+v", got) != fmt.Sprintf("%+v", want) {
		t.Errorf("%s: %v, want %v", was, got, want)
	}
	if told([]game.Position{p}) != was {
		t.Errorf("%s is changed", was)
	}
	for _, q := range got {
		if o.g.Check(q) != api.OK {
			t.Errorf("behind %s: %s: %s", was, told([]game.Position{q}), o.g.Check(q).Word())
		}
	}
	return got
}

// holdWalk looks whether Walk answers what the other look does.
func (o other) holdWalk(t *testing.T, text string, most int) (checker.Report, []game.Position) {
	t.Helper()
	want, l := o.walk(most)
	got, err := checker.Walk(o.g, most)
	if err != api.OK || !sameReport(got, want) {
		t.Errorf("%s\nup to %d: %+v, %s; want %+v", text, most, got, err.Word(), want)
	}
	return got, l
}
