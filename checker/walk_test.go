package checker_test

import (
	"fmt"
	"math"
	"math/rand"
	"slices"
	"strings"
	"testing"

	"baize/api"
	"baize/chance"
	"baize/checker"
	"baize/game"
	"baize/hash"
)

// maker makes rules by chance, of few positions.
type maker struct {
	*rand.Rand
	names []string // which may be looked at
}

// number is a small one.
func (m maker) number() string { return fmt.Sprint(m.Intn(6)) }

// any picks one of texts.
func (m maker) any(l ...string) string { return l[m.Intn(len(l))] }

// expr is an expression.
func (m maker) expr(deep int) string {
	switch k := m.Intn(4); {
	case deep == 0 || k == 0:
		return m.any(m.number(), m.any(m.names...), m.any(m.names...))
	case k == 1:
		return "( " + m.expr(deep-1) + " " + m.any("=", "!=", "<", ">=", "and", "or") + " " + m.expr(deep-1) + " )"
	}
	return "( " + m.expr(deep-1) + " " + m.any("+", "-", "*", "%", "/") + " " + m.expr(deep-1) + " )"
}

// set sets a cell to something.
func (m maker) set() string { return m.any("a", "b", "turns") + " = " + m.expr(2) }

// play is what a move does.
func (m maker) play() string {
	m.names = append(m.names, "x")
	var l []string
	for range 1 + m.Intn(3) {
		switch m.Intn(4) {
		case 0:
			l = append(l, "if "+m.expr(2)+" then refuse end")
		case 1:
			l = append(l, "if "+m.expr(1)+" then roll "+m.any("a", "b")+" "+fmt.Sprint(2+m.Intn(5))+" end")
		default:
			l = append(l, m.set())
		}
	}
	return strings.Join(l, " ")
}

// rules makes some. In half of them turns are counted.
func (m maker) rules() rules {
	seats := 2 + m.Intn(3)
	m.names = []string{"a", "b", "turns"}
	r := rules{
		seats: seats,
		vars:  fmt.Sprint("var a 0 ", m.Intn(4), " var b ", m.Intn(5)-2, " ", 2+m.Intn(3), " var turns 0 3"),
		start: m.any("", m.set()),
		turn:  "if " + m.expr(1) + " > " + m.number() + " then over end seat " + m.expr(1) + " % " + fmt.Sprint(seats+m.Intn(2)),
		play:  "x 0 " + fmt.Sprint(m.Intn(4)) + " " + m.play(),
		pays:  "pay " + m.expr(1) + " " + m.expr(1) + " rest " + m.expr(1),
	}
	if m.Intn(2) == 0 {
		r.turn = "if turns = 3 then over end " + r.turn
		r.play += " turns = turns + 1"
	}
	m.names = append(m.names, "who")
	r.quiet = m.any("", m.set(), m.set())
	return r
}

// TestP192Any: rules by chance, and whatever comes of them, against another look (P19.1 and P19.2).
func TestP192Any(t *testing.T) {
	m := maker{Rand: rand.New(rand.NewSource(19))}
	var whole, round, stuck, throws int
	for range 250 {
		text := m.rules().text()
		o := look(t, text)
		for _, most := range []int{1, 2, 1 + m.Intn(20)} {
			o.holdWalk(t, text, most)
		}
		report, l := o.holdWalk(t, text, 250)
		o.holdWalk(t, text, len(l))
		o.holdWalk(t, text, max(len(l)-1, 1))
		for _, p := range l[:min(len(l), 40)] {
			o.holdNext(t, p)
			if p.Roll != (game.Roll{}) {
				throws++
			}
		}
		if report.Whole {
			whole++
			if report.Long == -1 {
				round++
			}
		}
		stuck += min(len(report.Stuck), 1)
		if t.Failed() {
			t.Fatal(text)
		}
	}
	if whole < 60 || round < 20 || round > whole-20 || stuck < 20 || throws < 500 {
		t.Error(whole, round, stuck, throws)
	}
}

// TestP191Any: positions by chance, those too that nothing comes to: any cells, tips and throws.
func TestP191Any(t *testing.T) {
	m := maker{Rand: rand.New(rand.NewSource(1919))}
	may := 0
	for range 300 {
		o := look(t, m.rules().text())
		first := start(t, o.g)
		for range 30 {
			p := game.Clone(first)
			for i := range p.Vars {
				p.Vars[i] = o.low[i] + m.Int31n(o.high[i]-o.low[i]+1)
			}
			for seat := range p.Gone {
				p.Gone[seat] = m.Intn(3) == 0
				p.Tips[seat] = hash.FromNum(m.Uint64())
			}
			if m.Intn(2) == 0 {
				seats := len(p.Gone)
				p.Roll = game.Roll{Cell: m.Intn(3), Sides: 2 + m.Intn(7), Mover: m.Intn(seats), Next: m.Intn(seats), Sum: math.MaxUint64 >> m.Intn(64)}
			}
			if m.Intn(10) == 0 {
				p.Vars[m.Intn(3)] = int32(m.Intn(9) - 4)
			}
			if len(o.holdNext(t, p)) > 0 {
				may++
			}
		}
	}
	if may < 3000 {
		t.Error(may)
	}
}

// seen gives all positions that are come to, by their bytes.
func seen(g *game.Rules, first game.Position) map[string]bool {
	known := map[string]bool{string(game.Encode(first)): true}
	l := []game.Position{first}
	for i := 0; i < len(l); i++ {
		next, _ := checker.Next(g, l[i])
		for _, q := range next {
			if key := string(game.Encode(q)); !known[key] {
				known[key] = true
				l = append(l, q)
			}
		}
	}
	return known
}

// bare gives a position but for its tips, and a throw's sum.
func bare(p game.Position) string {
	p = game.Clone(p)
	clear(p.Tips)
	p.Roll.Sum = 0
	return string(game.Encode(p))
}

// deed does something at a position by chance: whose turn it is moves, or somebody is silenced.
func (m maker) deed(t *testing.T, g *game.Rules, p game.Position, chains []*chance.Chain) game.Position {
	t.Helper()
	turn := g.Turn(p)
	var next game.Position
	var err api.Errno
	moves := g.Moves(p)
	switch {
	case m.Intn(9) == 0 || len(moves) == 0 && p.Roll == (game.Roll{}):
		who := turn
		if other := m.Intn(len(p.Gone)); !p.Gone[other] {
			who = other
		}
		next, err = g.Silence(p, who)
	case len(moves) == 0:
		reveal, _ := chains[turn].Answer(p.Tips[turn])
		next, err = g.Do(p, turn, game.Move{Throw: true, Reveal: reveal})
	default:
		next, err = g.Do(p, turn, moves[m.Intn(len(moves))])
	}
	if err != api.OK {
		t.Fatalf("%s: %s", told([]game.Position{p}), err.Word())
	}
	return next
}

// TestP193: whatever is played, shown and not said, games come to positions that were come to, in no more steps, and pay no less and no more.
func TestP193(t *testing.T) {
	m := maker{Rand: rand.New(rand.NewSource(193))}
	var games, ended, throws int
	for range 250 {
		text := m.rules().text()
		g := parsed(t, text)
		report, err := checker.Walk(g, 3000)
		if err != api.OK || !report.Whole {
			continue
		}
		known := seen(g, start(t, g))
		if len(known) != report.Positions {
			t.Errorf("%s: %d, want %d", text, report.Positions, len(known))
		}
		for range 20 {
			var tips []hash.Digest
			var chains []*chance.Chain
			for range g.Seats() {
				c, _ := chance.New(hash.FromNum(m.Uint64()), 60)
				tips, chains = append(tips, c.Anchor()), append(chains, c)
			}
			p, _ := g.Start(tips)
			steps := 0
			for ; g.Turn(p) != -1 && steps < 60; steps++ {
				if p.Roll != (game.Roll{}) {
					throws++
				}
				p = m.deed(t, g, p, chains)
				if !known[bare(p)] {
					t.Fatalf("%s: %s isn't come to", text, told([]game.Position{p}))
				}
			}
			games++
			if report.Long != -1 && (steps > report.Long || g.Turn(p) != -1) {
				t.Errorf("%s: %d steps, %d at most", text, steps, report.Long)
			}
			pays, err := g.Pays(p, 5*g.Seats())
			for seat, n := range pays {
				if n < report.Least[seat] || n > report.Most[seat] {
					t.Errorf("%s: seat %d is paid %d, from %d to %d", text, seat, n, report.Least[seat], report.Most[seat])
				}
			}
			if err == api.OK {
				ended++
			}
		}
	}
	if games < 1000 || ended < 500 || throws < 500 {
		t.Error(games, ended, throws)
	}
}

// TestP193Kept: what is handed in isn't changed, and answers are new memory.
func TestP193Kept(t *testing.T) {
	text := rules{seats: 3, vars: "var d 0 4 var n 0 9", turn: "seat n % 2", play: "x 0 3 if x = 3 or n > 1 then refuse end if x = 2 then roll d 4 end n = n + 1"}.text()
	g := parsed(t, text)
	wipe := func(p game.Position) {
		for _, v := range [][]int32{p.Vars, p.Vars[:cap(p.Vars)]} {
			for i := range v {
				v[i] = 77
			}
		}
		clear(p.Gone)
		for i := range p.Tips {
			p.Tips[i] = hash.Digest{7, 7}
		}
	}
	first := start(t, g)
	last := rolled(first, 4, 1, 1, 3)
	for _, p := range []game.Position{first, last, silent(last, 0), rolled(first, 4, 1, 2, 3)} {
		was := told([]game.Position{p})
		l, _ := checker.Next(g, p)
		want := told(l)
		for i := range l {
			rest := told(l[i+1:])
			wipe(l[i])
			if told(l[i+1:]) != rest {
				t.Error("positions share memory")
			}
		}
		moves := checker.Moves(g, p)
		for _, m := range moves {
			clear(m.Args)
		}
		again, _ := checker.Next(g, p)
		if told([]game.Position{p}) != was || told(again) != want {
			t.Errorf("%s: what was handed in is changed, or kept", was)
		}
	}
	report, _ := checker.Walk(g, 500)
	was := fmt.Sprintf("%+v", report)
	if len(report.Stuck) < 2 {
		t.Fatal(report)
	}
	for i := range report.Stuck {
		rest := told(report.Stuck[i+1:])
		wipe(report.Stuck[i])
		if told(report.Stuck[i+1:]) != rest {
			t.Error("positions share memory")
		}
	}
	least := slices.Clone(report.Least)
	clear(report.Most)
	if !slices.Equal(report.Least, least) {
		t.Error("least and most share memory")
	}
	if again, _ := checker.Walk(g, 500); fmt.Sprintf("%+v", again) != was {
		t.Errorf("%+v, want %s", again, was)
	}
}

// TestR3: a list that is nil and one that is empty are one.
func TestR3(t *testing.T) {
	o := look(t, rules{turn: "seat 1", play: "x 0 1"}.text())
	p := start(t, o.g)
	for _, vars := range [][]int32{nil, {}} {
		l := o.holdNext(t, changed(p, func(p *game.Position) { p.Vars = vars }))
		if len(l) != 3 || !game.Same(l[0], p) {
			t.Error(told(l))
		}
	}
}
