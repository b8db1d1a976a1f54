package checker_test

import (
	"fmt"
	"math"
	"slices"
	"testing"

	"baize/api"
	"baize/checker"
	"baize/game"
	"baize/hash"
)

// start gives a game's first position, of tips that are all zero.
func start(t *testing.T, g *game.Rules) game.Position {
	t.Helper()
	p, err := g.Start(make([]hash.Digest, g.Seats()))
	if err != api.OK {
		t.Fatal(err.Word())
	}
	return p
}

// changed gives a position with something in it changed.
func changed(p game.Position, change func(p *game.Position)) game.Position {
	q := game.Clone(p)
	change(&q)
	return q
}

// silent gives a position with one more gone.
func silent(p game.Position, who int) game.Position {
	return changed(p, func(p *game.Position) { p.Gone[who] = true })
}

// with gives a position whose first cell is that.
func with(p game.Position, n int32) game.Position {
	return changed(p, func(p *game.Position) { p.Vars[0] = n })
}

// comes looks whether just these positions come next of one.
func comes(t *testing.T, g *game.Rules, p game.Position, turn int, want ...game.Position) {
	t.Helper()
	got, who := checker.Next(g, p)
	if told(got) != told(want) || who != turn {
		t.Errorf("behind %s: %s, of %d; want %s, of %d", told([]game.Position{p}), told(got), who, told(want), turn)
	}
}

// reports looks whether that is what a walk tells.
func reports(t *testing.T, r rules, most int, want checker.Report) {
	t.Helper()
	got, err := checker.Walk(parsed(t, r.text()), most)
	if err != api.OK || !sameReport(got, want) {
		t.Errorf("%s\nup to %d: %+v, %s; want %+v", r.text(), most, got, err.Word(), want)
	}
}

// once are the chapter's example's rules.
var once = rules{vars: "var n 0 1", turn: "if n = 1 then over else seat 0 end", play: "n = 1"}

// TestExample: the chapter's.
func TestExample(t *testing.T) {
	g := parsed(t, once.text())
	p := start(t, g)
	comes(t, g, p, 0, with(p, 1), silent(p, 0), silent(p, 1))
	comes(t, g, silent(p, 1), 0, with(silent(p, 1), 1), silent(silent(p, 1), 0))
	comes(t, g, with(p, 1), -1)
	comes(t, g, silent(p, 0), -1)
	reports(t, once, 100, checker.Report{Positions: 6, Overs: 4, Whole: true, Long: 2, Least: []int{10, 0}, Most: []int{10, 0}})
}

// TestP191None: what has nothing behind it: what is over, what may not be, and no rules.
func TestP191None(t *testing.T) {
	g := parsed(t, once.text())
	p := start(t, g)
	for i, q := range []game.Position{
		{}, with(p, 1), silent(p, 0), with(p, 2), with(p, -1), silent(silent(p, 0), 1),
		changed(p, func(p *game.Position) { p.Vars = nil }), changed(p, func(p *game.Position) { p.Gone = p.Gone[:1] }), changed(p, func(p *game.Position) { p.Tips = append(p.Tips, hash.Digest{}) }),
		changed(p, func(p *game.Position) { p.Roll.Sum = 1 }), changed(p, func(p *game.Position) { p.Roll = game.Roll{Cell: 1, Sides: 6} }), changed(p, func(p *game.Position) { p.Roll = game.Roll{Sides: 1001} }), changed(p, func(p *game.Position) { p.Roll = game.Roll{Sides: 1} }),
		changed(p, func(p *game.Position) { p.Roll = game.Roll{Sides: 6, Next: 2} }), changed(p, func(p *game.Position) { p.Roll = game.Roll{Sides: 6, Mover: -1} }), changed(silent(p, 1), func(p *game.Position) { p.Roll = game.Roll{Sides: 6, Next: 1} }),
		changed(p, func(p *game.Position) {
			p.Roll = game.Roll{Cell: math.MinInt, Sides: math.MaxInt, Mover: math.MinInt, Next: math.MaxInt}
		}),
	} {
		comes(t, g, q, -1)
		if l := checker.Moves(g, q); len(l) != 0 {
			t.Errorf("%d: %v", i, l)
		}
	}
	for _, none := range []*game.Rules{nil, {}} {
		comes(t, none, p, -1)
		comes(t, none, game.Position{}, -1)
		if l := checker.Moves(none, p); len(l) != 0 {
			t.Errorf("of no rules: %v", l)
		}
	}
}

// TestP191Moves: moves come first, in order, each position where it comes first; then silences.
func TestP191Moves(t *testing.T) {
	r := rules{seats: 3, vars: "var a 0 9", turn: "seat 1", play: "x 0 5, y 0 1 if x = 3 then refuse end a = 9 - x / 2", quiet: "a = who + 1"}
	g := parsed(t, r.text())
	p := start(t, g)
	comes(t, g, p, 1, with(p, 9), with(p, 8), with(p, 7), with(silent(p, 0), 1), with(silent(p, 1), 2), with(silent(p, 2), 3))
	comes(t, g, silent(p, 0), 1, with(silent(p, 0), 9), with(silent(p, 0), 8), with(silent(p, 0), 7), with(silent(silent(p, 0), 1), 2), with(silent(silent(p, 0), 2), 3))
	comes(t, g, silent(p, 1), -1)
	if l := checker.Moves(g, p); len(l) != 10 || !game.SameMove(l[0], game.Move{Args: []int32{0, 0}}) || !game.SameMove(l[9], game.Move{Args: []int32{5, 1}}) {
		t.Error(l)
	}
	twice := parsed(t, rules{vars: "var a 0 9 var b 0 9", turn: "seat 0", play: "x 0 5 if x % 2 = 0 then a = 1 else if x != 3 then b = x end end"}.text())
	q := start(t, twice)
	five := changed(q, func(p *game.Position) { p.Vars[1] = 5 })
	one := changed(q, func(p *game.Position) { p.Vars[1] = 1 })
	comes(t, twice, q, 0, with(q, 1), one, q, five, silent(q, 0), silent(q, 1)) // what comes again is left out, wherever it comes
}

// TestP191Stuck: nobody can play, but all can be silent.
func TestP191Stuck(t *testing.T) {
	r := rules{turn: "seat 1", play: "refuse"}
	g := parsed(t, r.text())
	p := start(t, g)
	comes(t, g, p, 1, silent(p, 0), silent(p, 1))
	reports(t, r, 9, checker.Report{Positions: 4, Overs: 2, Whole: true, Stuck: []game.Position{p, silent(p, 0)}, Long: 2, Least: []int{10, 0}, Most: []int{10, 0}})
}

// rolled gives a position at which a throw for the first cell is to be done.
func rolled(p game.Position, sides, mover, next int, sum uint64) game.Position {
	return changed(p, func(p *game.Position) {
		p.Roll = game.Roll{Sides: sides, Mover: mover, Next: next, Sum: sum}
	})
}

// TestP191Throw: who has to show shows the number 0; the last one shows each face; all tips stay as they were.
func TestP191Throw(t *testing.T) {
	g := parsed(t, rules{seats: 3, vars: "var d 0 4 var s 0 9", turn: "seat 0", play: "roll d 3", quiet: "d = 4 s = who"}.text())
	p, err := g.Start([]hash.Digest{{1}, {2}, {3}})
	if err != api.OK {
		t.Fatal(err.Word())
	}
	gone := func(p game.Position, who int, d int32) game.Position { // the rules set both cells
		return changed(silent(p, who), func(p *game.Position) { p.Vars[0], p.Vars[1] = d, int32(who) })
	}
	for _, sum := range []uint64{0, 1, 5, math.MaxUint64} {
		first, second, third := rolled(p, 3, 0, 1, sum), rolled(p, 3, 0, 2, sum), rolled(p, 3, 0, 0, sum)
		comes(t, g, first, 1, second, gone(first, 0, 4), gone(second, 1, 4), gone(first, 2, 4))
		comes(t, g, second, 2, third, gone(second, 0, 4), gone(second, 1, 4), gone(third, 2, 4))
		comes(t, g, third, 0, with(p, 1), with(p, 2), with(p, 3), gone(p, 0, 1), gone(p, 0, 2), gone(p, 0, 3), gone(third, 1, 4), gone(third, 2, 4))
		alone := silent(silent(first, 0), 2) // whoever asked for it, and is gone
		done := silent(silent(p, 0), 2)
		comes(t, g, alone, 1, with(done, 1), with(done, 2), with(done, 3), gone(done, 1, 1), gone(done, 1, 2), gone(done, 1, 3))
	}
	comes(t, g, p, 0, rolled(p, 3, 0, 1, 0), gone(p, 0, 4), gone(p, 1, 4), gone(p, 2, 4))
}

// TestP191Faces: faces are cut into their variable's range, and each comes once.
func TestP191Faces(t *testing.T) {
	for _, x := range []struct {
		low, high, sides int
		first, last      int32
	}{
		{0, 6, 6, 1, 6}, {1, 6, 6, 1, 6}, {2, 5, 6, 2, 5}, {3, 3, 6, 3, 3}, {6, 9, 6, 6, 6}, {7, 9, 6, 7, 7}, {-9, 2, 6, 1, 2}, {-9, 1, 6, 1, 1}, {-9, 0, 6, 0, 0}, {-9, -3, 6, -3, -3}, {0, 2, 2, 1, 2}, {0, 9, 2, 1, 2},
		{-math.MaxInt32, math.MaxInt32, 1000, 1, 1000}, {-math.MaxInt32, -math.MaxInt32, 1000, -math.MaxInt32, -math.MaxInt32}, {math.MaxInt32, math.MaxInt32, 1000, math.MaxInt32, math.MaxInt32}, {999, math.MaxInt32, 1000, 999, 1000}, {1000, 2000, 1000, 1000, 1000}, {0, 999, 1000, 1, 999},
	} {
		g := parsed(t, rules{vars: fmt.Sprint("var d ", x.low, " ", x.high), turn: "over", play: "roll d 6"}.text())
		p := start(t, g)
		var want, behind []game.Position
		for n := int64(x.first); n <= int64(x.last); n++ {
			want = append(want, with(p, int32(n)))
			behind = append(behind, with(silent(p, 1), int32(n)))
		}
		last := rolled(p, x.sides, 1, 1, 7)
		comes(t, g, last, 1, slices.Concat(want, []game.Position{silent(last, 0)}, behind)...)
	}
}

// TestP192Errors: no rules, and how many positions may be asked for.
func TestP192Errors(t *testing.T) {
	g := parsed(t, once.text())
	for _, most := range []int{math.MinInt, -1, 0, 65537, math.MaxInt} {
		for _, x := range []struct {
			g    *game.Rules
			want api.Errno
		}{{nil, api.ErrArg}, {g, api.ErrRange}} {
			if report, err := checker.Walk(x.g, most); err != x.want || !sameReport(report, checker.Report{}) {
				t.Errorf("up to %d: %+v, %s; want %s", most, report, err.Word(), x.want.Word())
			}
		}
	}
	for _, none := range []*game.Rules{nil, {}} {
		if report, err := checker.Walk(none, 1); err != api.ErrArg || !sameReport(report, checker.Report{}) {
			t.Errorf("of no rules: %+v, %s", report, err.Word())
		}
	}
	for _, most := range []int{6, 65536} {
		if report, err := checker.Walk(g, most); err != api.OK || !report.Whole {
			t.Errorf("up to %d: %+v, %s", most, report, err.Word())
		}
	}
}

// TestP192Cut: what is left out, as soon as there are so many.
func TestP192Cut(t *testing.T) {
	for most, overs := range []int{0, 0, 1, 2, 2, 3, 4, 4} {
		if most == 0 {
			continue
		}
		pays := []int{10, 0}
		if overs == 0 {
			pays = []int{0, 0}
		}
		want := checker.Report{Positions: min(most, 6), Overs: overs, Whole: most >= 6, Long: -1, Least: pays, Most: pays}
		if want.Whole {
			want.Long = 2
		}
		reports(t, once, most, want)
	}
}

// TestP192Start: rules that are over at once, and rules whose first position is theirs.
func TestP192Start(t *testing.T) {
	reports(t, rules{}, 1, checker.Report{Positions: 1, Overs: 1, Whole: true, Least: []int{10, 0}, Most: []int{10, 0}})
	reports(t, rules{vars: "var n 3 9", start: "n = 7", turn: "if n = 7 then over else seat 0 end", pays: "pay 1 n rest 0"}, 1, checker.Report{Positions: 1, Overs: 1, Whole: true, Least: []int{3, 7}, Most: []int{3, 7}})
}

// TestP192Round: a way that comes to a position at which it was, at once or by and by, from the first position or from a later one.
func TestP192Round(t *testing.T) {
	for _, r := range []rules{
		{turn: "seat 0"},
		{vars: "var n 0 1", turn: "seat n", play: "n = 1 - n"},
		{vars: "var n 0 5", turn: "seat 0", play: "n = n + 1"},
		{vars: "var n 0 5", turn: "seat 0", play: "n = n % 5 + 1"},
		{vars: "var n 0 5", turn: "seat 0", play: "x 0 1 if n = 5 then refuse end if x = 0 then n = n + 1 else if n = 4 then n = 2 else n = 5 end end"},
		{vars: "var d 0 3", turn: "seat 0", play: "roll d 3"},
	} {
		o := look(t, r.text())
		if report, _ := o.holdWalk(t, r.text(), 500); !report.Whole || report.Long != -1 {
			t.Errorf("%s: %+v", r.text(), report)
		}
	}
}

// TestP192Long: the longest way, where others come to the same position earlier.
func TestP192Long(t *testing.T) {
	for _, x := range []struct {
		r    rules
		long int
	}{
		{rules{vars: "var n 0 9", turn: "if n = 9 then over else seat 0 end", play: "x 1 9 n = n + x"}, 10}, // all others are silenced on the way
		{rules{vars: "var n 0 9", turn: "if n = 9 then over else seat 0 end", play: "x 1 9 if n + x > 9 then refuse end n = n + x", quiet: "n = 9"}, 9},
		{rules{vars: "var n 0 9", turn: "if n = 9 then over else seat 0 end", play: "n = 9", quiet: "n = 9"}, 1},
		{rules{vars: "var d 0 3", turn: "if d > 0 then over else seat 0 end", play: "roll d 3"}, 4},
		{rules{seats: 8, vars: "var d 0 3", turn: "if d > 0 then over else seat 0 end", play: "roll d 3"}, 16},
	} {
		got, err := checker.Walk(parsed(t, x.r.text()), 65536)
		if err != api.OK || !got.Whole || got.Long != x.long {
			t.Errorf("%s: %+v, %s; want %d", x.r.text(), got, err.Word(), x.long)
		}
	}
}

// TestP192Pays: the least and the most of each seat, of all stakes together, however great.
func TestP192Pays(t *testing.T) {
	r := rules{seats: 3, vars: "var n 0 20", turn: "if n > 0 then over else seat 0 end", play: "x 3 7 n = x", quiet: "n = 20", pays: "pay 1 n pay 2 n / 2 rest 0"}
	reports(t, r, 99, checker.Report{Positions: 9, Overs: 8, Whole: true, Long: 1, Least: []int{0, 3, 0}, Most: []int{11, 15, 3}})
	text := "game g seats 8 stake 2147483647 2147483647 2147483647 2147483647 2147483647 2147483647 2147483647 2147483647 start end turn over end play end silent w end pay pay 3 1 rest 5 end"
	got, err := checker.Walk(parsed(t, text), 1)
	pays := []int{0, 0, 0, 1, 0, 8*math.MaxInt32 - 1, 0, 0}
	if want := (checker.Report{Positions: 1, Overs: 1, Whole: true, Least: pays, Most: pays}); err != api.OK || !sameReport(got, want) {
		t.Errorf("%+v, %s; want %+v", got, err.Word(), want)
	}
}

// TestP192Great: as many positions as may be asked for, and more of them than that.
func TestP192Great(t *testing.T) {
	// Of 2^7 times 2^8 numbers, and who is gone, until both are, which is 0 once more.
	text := func(high int) string {
		return rules{vars: fmt.Sprint("var a 0 127 var b 0 ", high), turn: "seat 0", play: "if a < 127 then a = a + 1 else a = 0 b = b + 1 end", quiet: "if who = 0 then a = 0 b = 0 end"}.text()
	}
	for _, x := range []struct {
		high, positions int
		whole           bool
	}{{254, 2*128*255 + 2, true}, {255, 65536, false}, {300, 65536, false}} {
		got, err := checker.Walk(parsed(t, text(x.high)), 65536)
		overs := 2
		if err != api.OK || got.Positions != x.positions || got.Whole != x.whole || got.Overs != overs || got.Long != -1 || len(got.Stuck) != 0 {
			t.Errorf("up to %d: %+v, %s", x.high, got, err.Word())
		}
	}
}
