package game_test

import (
	"fmt"
	"math"
	"slices"
	"strings"
	"testing"

	"baize/api"
	"baize/compile"
	"baize/game"
	"baize/hash"
	"baize/print"
	"baize/syntax"
)

const (
	least = math.MinInt32
	great = math.MaxInt32
)

// rules are a game's, piece by piece; what isn't told is as little as may be.
type rules struct {
	vars, start, turn, play, quiet, pays string
	seats                                int
}

// text gives the rules as one.
func (r rules) text() string {
	if r.turn == "" {
		r.turn = "over"
	}
	if r.pays == "" {
		r.pays = "rest 0"
	}
	seats := max(r.seats, 2)
	return fmt.Sprint("game g seats ", seats, " stake", strings.Repeat(" 5", seats), " ", r.vars, " start ", r.start, " end turn ", r.turn, " end play ", r.play, " end silent who ", r.quiet, " end pay ", r.pays, " end")
}

// parsed gives the rules themselves.
func (r rules) parsed(t *testing.T) *game.Rules {
	t.Helper()
	g, err := game.Parse(r.text())
	if err != api.OK || g == nil {
		t.Fatalf("%s: %s", r.text(), err.Word())
	}
	return g
}

// reveal is what a seat shows as its n-th throw, from the last one on, the number of its first digest being told by its seat.
func reveal(seat, n int) hash.Digest {
	return hash.Chain(hash.FromNum(uint64(100+seat)), n)
}

// tips are those of so many seats, n throws deep.
func tips(seats, n int) []hash.Digest {
	var l []hash.Digest
	for seat := range seats {
		l = append(l, reveal(seat, n))
	}
	return l
}

// started gives a game's first position.
func started(t *testing.T, r *game.Rules) game.Position {
	t.Helper()
	p, err := r.Start(tips(r.Seats(), 9))
	if err != api.OK {
		t.Fatal(err.Word())
	}
	return p
}

func plays(args ...int32) game.Move { return game.Move{Args: args} }

func throws(d hash.Digest) game.Move { return game.Move{Throw: true, Reveal: d} }

// told gives a position, a list that is nil as one that is empty.
func told(p game.Position) string { return fmt.Sprintf("%+v", p) }

// do gives the position behind a move that has to be let.
func do(t *testing.T, r *game.Rules, p game.Position, seat int, m game.Move) game.Position {
	t.Helper()
	next, err := r.Do(p, seat, m)
	if err != api.OK || r.Check(next) != api.OK {
		t.Fatalf("%s, seat %d, %+v: %s, %s", told(p), seat, m, told(next), err.Word())
	}
	return next
}

// doNot looks that a move isn't let, and why.
func doNot(t *testing.T, r *game.Rules, p game.Position, seat int, m game.Move, want api.Errno) {
	t.Helper()
	if next, err := r.Do(p, seat, m); err != want || told(next) != told(game.Position{}) {
		t.Errorf("%s, seat %d, %+v: %s, %s; want %s", told(p), seat, m, told(next), err.Word(), want.Word())
	}
}

// silence gives the position behind a silence that has to be let.
func silence(t *testing.T, r *game.Rules, p game.Position, who int) game.Position {
	t.Helper()
	next, err := r.Silence(p, who)
	if err != api.OK || r.Check(next) != api.OK {
		t.Fatalf("%s, %d: %s, %s", told(p), who, told(next), err.Word())
	}
	return next
}

// silenceNot looks that a silence isn't let, and why.
func silenceNot(t *testing.T, r *game.Rules, p game.Position, who int, want api.Errno) {
	t.Helper()
	if next, err := r.Silence(p, who); err != want || told(next) != told(game.Position{}) {
		t.Errorf("%s, %d: %s, %s; want %s", told(p), who, told(next), err.Word(), want.Word())
	}
}

// is looks whether a position is the one that is wanted.
func is(t *testing.T, what string, got, want game.Position) {
	t.Helper()
	if told(got) != told(want) || !game.Same(got, want) {
		t.Errorf("%s: %s, want %s", what, told(got), told(want))
	}
}

// TestExample: the chapter's.
func TestExample(t *testing.T) {
	r := rules{vars: "var d 0 6", turn: "seat 0", play: "roll d 6"}.parsed(t)
	seven, nine := hash.FromNum(7), hash.FromNum(9)
	p, err := r.Start([]hash.Digest{hash.One(nine), hash.One(seven)})
	if err != api.OK || r.Turn(p) != 0 {
		t.Fatal(err.Word(), r.Turn(p))
	}
	p = do(t, r, p, 0, plays())
	if r.Turn(p) != 1 {
		t.Error(r.Turn(p))
	}
	p = do(t, r, p, 1, throws(seven))
	if r.Turn(p) != 0 {
		t.Error(r.Turn(p))
	}
	p = do(t, r, p, 0, throws(nine))
	is(t, "behind both", p, game.Position{Vars: []int32{5}, Gone: make([]bool, 2), Tips: []hash.Digest{nine, seven}})
}

// TestP171New: rules of programs and texts, and those that have none.
func TestP171New(t *testing.T) {
	text := rules{seats: 3, vars: "var v 0 9 var l [ 2 ] -4 4", turn: "seat v", play: "a -3 4, b 7 7 refuse", pays: "pay 1 2 rest 2"}.text()
	text = strings.Replace(strings.Replace(text, "game g", "game some_game", 1), "stake 5 5 5", "stake 1 2147483647 7", 1)
	p, _, err := syntax.Parse(text)
	if err != api.OK {
		t.Fatal(err.Word())
	}
	printed, _ := print.Print(p)
	fromText, err := game.Parse(text)
	if err != api.OK {
		t.Fatal(err.Word())
	}
	fromTree, err := game.New(p)
	if err != api.OK {
		t.Fatal(err.Word())
	}
	fromPrint, err := game.Parse(printed)
	if err != api.OK {
		t.Fatal(err.Word())
	}
	for _, r := range []*game.Rules{fromText, fromTree, fromPrint} {
		if r.Name() != "some_game" || r.Seats() != 3 || !slices.Equal(r.Stakes(), []int{1, great, 7}) || !slices.Equal(r.Menu(), [][2]int32{{-3, 4}, {7, 7}}) {
			t.Error(r.Name(), r.Seats(), r.Stakes(), r.Menu())
		}
		if r.Digest() != hash.Word(hash.Of([]byte(printed)), "rules") {
			t.Error(r.Digest())
		}
		code, _ := compile.Compile(p)
		for part := range compile.Parts {
			if !slices.Equal(r.Code().Instrs(part), code.Instrs(part)) || r.Code().Words() != code.Words() || r.Code().Most(part) != code.Most(part) {
				t.Error(part)
			}
		}
	}
	p.Stakes[2]++
	if other, err := game.New(p); err != api.OK || other.Digest() == fromText.Digest() {
		t.Error("other rules with the same digest")
	}
	if r := (rules{}).parsed(t); len(r.Menu()) != 0 {
		t.Error(r.Menu())
	}
}

// TestP171Wrong: what has no rules, and why.
func TestP171Wrong(t *testing.T) {
	for s, want := range map[string]api.Errno{
		"": api.ErrShort, "game g": api.ErrShort, "gam": api.ErrForm, rules{}.text() + " end": api.ErrForm, strings.Repeat(" ", 65537): api.ErrRange, "game g $": api.ErrForm, rules{pays: "rest " + strings.Repeat("- ", 16) + "1"}.text(): api.ErrDeep,
		rules{play: "x = 1"}.text(): api.ErrName, rules{pays: "pay 1 1"}.text(): api.ErrShort, rules{vars: "var x 0 1 var x 0 1"}.text(): api.ErrTwice, rules{play: "over"}.text(): api.ErrState,
		rules{start: strings.Repeat("for i 1 0 do end ", 257)}.text(): api.ErrLong, rules{start: "for i 1 60 do for j 1 60 do for k 1 10 do end end end"}.text(): api.ErrFuel,
	} {
		if r, err := game.Parse(s); r != nil || err != want {
			t.Errorf("%.300q: %v, %s; want %s", s, r != nil, err.Word(), want.Word())
		}
	}
	wrong := func(change func(p *syntax.Program), want api.Errno) {
		t.Helper()
		p, _, _ := syntax.Parse(rules{vars: "var x 0 9", turn: "seat x"}.text())
		change(&p)
		if r, err := game.New(p); r != nil || err != want {
			t.Errorf("%v: %v, %s; want %s", p, r != nil, err.Word(), want.Word())
		}
	}
	negative := syntax.Expr{N: -1}
	wrong(func(p *syntax.Program) { p.Name = "" }, api.ErrName)
	wrong(func(p *syntax.Program) { p.Stakes = nil }, api.ErrForm)
	wrong(func(p *syntax.Program) { p.Turn[0].E[0] = negative }, api.ErrArg)
	wrong(func(p *syntax.Program) { p.Turn[0].Low = 1 }, api.ErrArg)
	wrong(func(p *syntax.Program) { p.Vars[0].Low = least }, api.ErrArg)
	wrong(func(p *syntax.Program) { p.Turn[0].E[0], p.Vars[0].Name = negative, "y y" }, api.ErrName)
	wrong(func(p *syntax.Program) { p.Turn[0].E[0], p.Pays = negative, nil }, api.ErrShort)
	wrong(func(p *syntax.Program) { *p = syntax.Program{} }, api.ErrName)
}

// TestP172Start: the first position.
func TestP172Start(t *testing.T) {
	r := rules{seats: 3, vars: "var v 3 9 var l [ 2 ] -4 -2", start: "l [ 1 ] = v - 6", turn: "seat v - 3"}.parsed(t)
	want := game.Position{Vars: []int32{3, -2, -3}, Gone: make([]bool, 3), Tips: tips(3, 4)}
	if p, err := r.Start(tips(3, 4)); err != api.OK || told(p) != told(want) || r.Check(p) != api.OK || r.Turn(p) != 0 {
		t.Errorf("%s, %s", told(p), err.Word())
	}
	for _, n := range []int{0, 1, 2, 4, 8, 9} {
		if p, err := r.Start(tips(n, 1)); err != api.ErrForm || told(p) != told(game.Position{}) {
			t.Errorf("%d: %s, %s", n, told(p), err.Word())
		}
	}
}

// changed gives a position that is another one.
func changed(p game.Position, change func(p *game.Position)) game.Position {
	p = game.Clone(p)
	change(&p)
	return p
}

// TestP172Check: which positions may be, and what can't be done with those that may not.
func TestP172Check(t *testing.T) {
	r := rules{seats: 3, vars: "var v 3 9 var l [ 2 ] -4 -2", turn: "seat 0"}.parsed(t)
	first := started(t, r)
	set := func(set func(t *game.Roll)) func(p *game.Position) {
		return func(p *game.Position) {
			p.Roll = game.Roll{Cell: 1, Sides: 6, Mover: 2, Next: 1, Sum: 5}
			set(&p.Roll)
		}
	}
	for i, x := range []struct {
		change func(p *game.Position)
		want   api.Errno
	}{
		{func(p *game.Position) {}, api.OK},
		{func(p *game.Position) { p.Vars[0] = 9 }, api.OK}, {func(p *game.Position) { p.Vars[0] = 10 }, api.ErrRange}, {func(p *game.Position) { p.Vars[0] = 2 }, api.ErrRange}, {func(p *game.Position) { p.Vars[2] = -4 }, api.OK}, {func(p *game.Position) { p.Vars[2] = -5 }, api.ErrRange}, {func(p *game.Position) { p.Vars[1] = -1 }, api.ErrRange}, {func(p *game.Position) { p.Vars[1] = great }, api.ErrRange}, {func(p *game.Position) { p.Vars[1] = least }, api.ErrRange},
		{func(p *game.Position) { p.Vars = p.Vars[:2] }, api.ErrForm}, {func(p *game.Position) { p.Vars = append(p.Vars, -3) }, api.ErrForm}, {func(p *game.Position) { p.Vars = nil }, api.ErrForm},
		{func(p *game.Position) { p.Gone = p.Gone[:2] }, api.ErrForm}, {func(p *game.Position) { p.Gone = make([]bool, 4) }, api.ErrForm}, {func(p *game.Position) { p.Gone = nil }, api.ErrForm}, {func(p *game.Position) { p.Gone = []bool{true, true, true} }, api.OK},
		{func(p *game.Position) { p.Tips = p.Tips[:2] }, api.ErrForm}, {func(p *game.Position) { p.Tips = make([]hash.Digest, 4) }, api.ErrForm}, {func(p *game.Position) { p.Tips = make([]hash.Digest, 3) }, api.OK}, {func(p *game.Position) { *p = game.Position{} }, api.ErrForm},
		{func(p *game.Position) { p.Vars[0], p.Tips = 99, nil }, api.ErrForm}, {func(p *game.Position) { p.Vars[0], p.Gone = 99, nil }, api.ErrForm}, {func(p *game.Position) { p.Roll.Sides, p.Gone = 1, nil }, api.ErrForm},
		{set(func(r *game.Roll) {}), api.OK}, {set(func(r *game.Roll) { r.Sum = 0 }), api.OK}, {set(func(r *game.Roll) { r.Sum = math.MaxUint64 }), api.OK}, {set(func(r *game.Roll) { *r = game.Roll{} }), api.OK}, {set(func(r *game.Roll) { *r = game.Roll{Sides: 2} }), api.OK},
		{set(func(r *game.Roll) { *r = game.Roll{Sum: 1} }), api.ErrRange}, {set(func(r *game.Roll) { *r = game.Roll{Cell: 1} }), api.ErrRange}, {set(func(r *game.Roll) { *r = game.Roll{Mover: 1} }), api.ErrRange}, {set(func(r *game.Roll) { *r = game.Roll{Next: 1} }), api.ErrRange}, {set(func(r *game.Roll) { *r = game.Roll{Sides: 1} }), api.ErrRange},
		{set(func(r *game.Roll) { r.Cell = 0 }), api.OK}, {set(func(r *game.Roll) { r.Cell = 2 }), api.OK}, {set(func(r *game.Roll) { r.Cell = 3 }), api.ErrRange}, {set(func(r *game.Roll) { r.Cell = -1 }), api.ErrRange}, {set(func(r *game.Roll) { r.Cell = math.MaxInt }), api.ErrRange}, {set(func(r *game.Roll) { r.Cell = math.MinInt }), api.ErrRange},
		{set(func(r *game.Roll) { r.Sides = 2 }), api.OK}, {set(func(r *game.Roll) { r.Sides = 1000 }), api.OK}, {set(func(r *game.Roll) { r.Sides = 1 }), api.ErrRange}, {set(func(r *game.Roll) { r.Sides = 0 }), api.ErrRange}, {set(func(r *game.Roll) { r.Sides = -6 }), api.ErrRange}, {set(func(r *game.Roll) { r.Sides = 1001 }), api.ErrRange}, {set(func(r *game.Roll) { r.Sides = math.MinInt }), api.ErrRange},
		{set(func(r *game.Roll) { r.Mover = 0 }), api.OK}, {set(func(r *game.Roll) { r.Mover = 1 }), api.OK}, {set(func(r *game.Roll) { r.Mover = 3 }), api.ErrRange}, {set(func(r *game.Roll) { r.Mover = -1 }), api.ErrRange}, {set(func(r *game.Roll) { r.Mover = math.MaxInt }), api.ErrRange},
		{set(func(r *game.Roll) { r.Next = 0 }), api.OK}, {set(func(r *game.Roll) { r.Next = 2 }), api.OK}, {set(func(r *game.Roll) { r.Next = 3 }), api.ErrRange}, {set(func(r *game.Roll) { r.Next = -1 }), api.ErrRange}, {set(func(r *game.Roll) { r.Next = math.MinInt }), api.ErrRange},
		{func(p *game.Position) { p.Gone[1], p.Roll = true, game.Roll{Sides: 6, Next: 1} }, api.ErrRange}, {func(p *game.Position) { p.Gone[1], p.Roll = true, game.Roll{Sides: 6, Mover: 1} }, api.OK}, {func(p *game.Position) { p.Gone[1], p.Roll = true, game.Roll{Sides: 6, Next: 2} }, api.OK}, {func(p *game.Position) { p.Gone = []bool{true, true, true}; p.Roll.Sides = 6 }, api.ErrRange},
	} {
		p := changed(first, x.change)
		if err := r.Check(p); err != x.want {
			t.Errorf("%d: %s: %s, want %s", i, told(p), err.Word(), x.want.Word())
		}
		if x.want == api.OK {
			continue
		}
		if turn := r.Turn(p); turn != -1 {
			t.Errorf("%s: turn %d", told(p), turn)
		}
		for seat := -2; seat < 5; seat++ {
			doNot(t, r, p, seat, plays(), x.want)
			doNot(t, r, p, seat, throws(reveal(seat, 8)), x.want)
			silenceNot(t, r, p, seat, x.want)
		}
		if l := r.Moves(p); len(l) != 0 {
			t.Errorf("%s: %v", told(p), l)
		}
		for _, pot := range []int{0, 30, -1} {
			if l, err := r.Pays(p, pot); len(l) != 0 || err != x.want {
				t.Errorf("%s: %v, %s; want %s", told(p), l, err.Word(), x.want.Word())
			}
		}
	}
}

// TestP172Turn: whose turn it is.
func TestP172Turn(t *testing.T) {
	r := rules{seats: 3, vars: "var v -9 9", turn: "if v = 9 then over end seat v"}.parsed(t)
	for _, x := range []struct {
		v    int32
		gone []bool
		roll game.Roll
		want int
	}{
		{0, []bool{false, false, false}, game.Roll{}, 0}, {2, []bool{false, false, false}, game.Roll{}, 2}, {3, []bool{false, false, false}, game.Roll{}, -1}, {8, []bool{false, false, false}, game.Roll{}, -1}, {9, []bool{false, false, false}, game.Roll{}, -1}, {-1, []bool{false, false, false}, game.Roll{}, -1}, {-9, []bool{false, false, false}, game.Roll{}, -1},
		{1, []bool{true, false, true}, game.Roll{}, 1}, {1, []bool{false, true, false}, game.Roll{}, -1}, {0, []bool{true, true, true}, game.Roll{}, -1},
		{1, []bool{false, true, false}, game.Roll{Sides: 6, Next: 2, Mover: 1}, 2}, {9, []bool{false, false, false}, game.Roll{Sides: 6, Next: 0, Mover: 1}, 0}, {1, []bool{false, true, false}, game.Roll{Sides: 6, Next: 1, Mover: 1}, -1},
	} {
		p := game.Position{Vars: []int32{x.v}, Gone: x.gone, Tips: tips(3, 1), Roll: x.roll}
		if got := r.Turn(p); got != x.want {
			t.Errorf("%s: %d, want %d", told(p), got, x.want)
		}
	}
}

// TestP173Play: moves that play.
func TestP173Play(t *testing.T) {
	r := rules{seats: 3, vars: "var v 0 9 var t 0 2", turn: "if v = 9 then over end seat t", play: "a 0 5, b -2 2 if a = 5 then refuse end v = a t = t + b if b = 0 then roll v 6 roll v 7 end"}.parsed(t)
	first := started(t, r)
	for a := int32(0); a < 5; a++ {
		for b := int32(-2); b <= 2; b++ {
			want := changed(first, func(p *game.Position) {
				p.Vars = []int32{a, min(max(b, 0), 2)}
				if b == 0 {
					p.Roll = game.Roll{Sides: 7, Next: 1}
				}
			})
			is(t, "behind a move", do(t, r, first, 0, plays(a, b)), want)
			is(t, "a reveal plays no part", do(t, r, first, 0, game.Move{Args: []int32{a, b}, Reveal: reveal(0, 8)}), want)
		}
	}
	for _, args := range [][]int32{{6, 0}, {-1, 0}, {0, 3}, {0, -3}, {5, 0}, {5, 1}, nil, {}, {1}, {1, 1, 1}, {great, 0}, {0, least}} {
		doNot(t, r, first, 0, plays(args...), api.ErrMove)
		for _, seat := range []int{1, 2, 3, -1, math.MinInt, math.MaxInt} {
			doNot(t, r, first, seat, plays(args...), api.ErrTurn)
		}
	}
	for _, seat := range []int{-1, 1, 2, 3} {
		doNot(t, r, first, seat, plays(1, 1), api.ErrTurn)
	}
	doNot(t, r, first, 0, throws(reveal(0, 8)), api.ErrMove)
	doNot(t, r, first, 0, game.Move{Throw: true, Args: []int32{1, 1}}, api.ErrMove)
	ended := changed(first, func(p *game.Position) { p.Vars[0] = 9 })
	for seat := -1; seat < 4; seat++ {
		doNot(t, r, ended, seat, plays(1, 1), api.ErrOver)
		doNot(t, r, ended, seat, throws(reveal(0, 8)), api.ErrOver)
	}
	gone := changed(first, func(p *game.Position) { p.Gone[0] = true })
	for seat := -1; seat < 4; seat++ {
		doNot(t, r, gone, seat, plays(1, 1), api.ErrOver)
	}
}

// TestP173Throw: moves that throw, one behind the other, and what comes of them.
func TestP173Throw(t *testing.T) {
	r := rules{seats: 3, vars: "var v 0 9 var d 2 9", turn: "seat 1", play: "roll d 10"}.parsed(t)
	p := do(t, r, started(t, r), 1, plays())
	sum := uint64(0)
	for _, seat := range []int{2, 0, 1} {
		if p.Roll != (game.Roll{Cell: 1, Sides: 10, Mover: 1, Next: seat, Sum: sum}) || p.Vars[1] != 2 {
			t.Fatal(told(p))
		}
		for other := -1; other < 4; other++ {
			if other != seat {
				doNot(t, r, p, other, throws(reveal(other, 8)), api.ErrTurn)
				doNot(t, r, p, other, plays(), api.ErrTurn)
			}
		}
		doNot(t, r, p, seat, plays(), api.ErrMove)
		doNot(t, r, p, seat, game.Move{Reveal: reveal(seat, 8)}, api.ErrMove)
		for _, d := range []hash.Digest{{}, reveal(seat, 9), reveal(seat, 7), reveal((seat+1)%3, 8)} {
			doNot(t, r, p, seat, throws(d), api.ErrOpen)
		}
		if len(r.Moves(p)) != 0 {
			t.Error(r.Moves(p))
		}
		next := do(t, r, p, seat, throws(reveal(seat, 8)))
		is(t, "arguments play no part", do(t, r, p, seat, game.Move{Throw: true, Args: []int32{1, 2, 3, 4, 5}, Reveal: reveal(seat, 8)}), next)
		sum += hash.Num(reveal(seat, 8))
		if next.Tips[seat] != reveal(seat, 8) || next.Tips[(seat+1)%3] != p.Tips[(seat+1)%3] || next.Tips[(seat+2)%3] != p.Tips[(seat+2)%3] {
			t.Error(told(next))
		}
		p = next
	}
	want := int32(min(max(1+sum%10, 2), 9))
	is(t, "done", p, game.Position{Vars: []int32{0, want}, Gone: make([]bool, 3), Tips: tips(3, 8)})
}

// TestP173Round: what is thrown goes round at 2^64, and is cut into the variable's range.
func TestP173Round(t *testing.T) {
	r := rules{vars: "var v 0 9 var d 3 8", turn: "seat 1", play: "roll d 10"}.parsed(t)
	for n := range uint64(24) {
		shown := [2]hash.Digest{hash.FromNum(math.MaxUint64 - 3), hash.FromNum(n)}
		p, _ := r.Start([]hash.Digest{hash.One(shown[0]), hash.One(shown[1])})
		p = do(t, r, p, 1, plays())
		p = do(t, r, p, 0, throws(shown[0]))
		if p.Roll.Sum != math.MaxUint64-3 {
			t.Error(told(p))
		}
		p = do(t, r, p, 1, throws(shown[1]))
		face := 1 + (math.MaxUint64-3+n)%10
		if want := min(max(int32(face), 3), 8); p.Vars[1] != want || p.Roll != (game.Roll{}) {
			t.Errorf("%d: %s, want %d", n, told(p), want)
		}
	}
	sides := rules{vars: "var d 0 1000", turn: "seat 0", play: "roll d 1000"}.parsed(t)
	for _, n := range []uint64{0, 998, 999, 1000, 1999} {
		p, _ := sides.Start([]hash.Digest{hash.One(hash.FromNum(n)), hash.One(hash.FromNum(0))})
		p = do(t, sides, do(t, sides, do(t, sides, p, 0, plays()), 1, throws(hash.FromNum(0))), 0, throws(hash.FromNum(n)))
		if p.Vars[0] != 1+int32(n%1000) {
			t.Error(n, told(p))
		}
	}
}

// TestP173Silence: who is silent is gone, by the part silent, and can't be silent again.
func TestP173Silence(t *testing.T) {
	r := rules{seats: 3, vars: "var v 0 9 var l [ 3 ] 0 1", turn: "if v = 9 then over end seat 1", quiet: "l [ who ] = 1 v = v + who"}.parsed(t)
	first := started(t, r)
	p := silence(t, r, first, 2)
	is(t, "silent", p, game.Position{Vars: []int32{2, 0, 0, 1}, Gone: []bool{false, false, true}, Tips: tips(3, 9)})
	silenceNot(t, r, p, 2, api.ErrTwice)
	for _, who := range []int{-1, 3, 4, math.MinInt, math.MaxInt, 1 << 32} {
		silenceNot(t, r, p, who, api.ErrSeat)
	}
	p = silence(t, r, p, 1)
	is(t, "whose turn it was", p, game.Position{Vars: []int32{3, 0, 1, 1}, Gone: []bool{false, true, true}, Tips: tips(3, 9)})
	for who := range 3 {
		silenceNot(t, r, p, who, api.ErrOver)
	}
	silenceNot(t, r, p, 3, api.ErrSeat)
	ended := changed(first, func(p *game.Position) { p.Vars[0] = 9 })
	silenceNot(t, r, ended, 0, api.ErrOver)
	silenceNot(t, r, ended, -1, api.ErrSeat)
}

// TestP173SilentThrow: a silence in a throw: of whose turn it is, and of others.
func TestP173SilentThrow(t *testing.T) {
	r := rules{seats: 4, vars: "var d 0 9", turn: "seat 2", play: "roll d 6", quiet: "d = 9"}.parsed(t)
	p := do(t, r, started(t, r), 2, plays())
	if p.Roll.Next != 3 {
		t.Fatal(told(p))
	}
	silentTwo := silence(t, r, silence(t, r, p, 3), 1)
	is(t, "Next's, and a later one's", silentTwo, game.Position{Vars: []int32{9}, Gone: []bool{false, true, false, true}, Tips: tips(4, 9), Roll: game.Roll{Sides: 6, Mover: 2}})
	shown := do(t, r, silentTwo, 0, throws(reveal(0, 8)))
	if shown.Roll != (game.Roll{Sides: 6, Mover: 2, Next: 2, Sum: hash.Num(reveal(0, 8))}) {
		t.Error(told(shown))
	}
	face := 1 + int32(hash.Num(reveal(0, 8))%6)
	left := silence(t, r, shown, 2)
	is(t, "the mover's, last", left, game.Position{Vars: []int32{face}, Gone: []bool{false, true, true, true}, Tips: []hash.Digest{reveal(0, 8), reveal(1, 9), reveal(2, 9), reveal(3, 9)}})
	nobody := silence(t, r, silence(t, r, silentTwo, 2), 0)
	is(t, "nobody shows", nobody, game.Position{Vars: []int32{1}, Gone: []bool{true, true, true, true}, Tips: tips(4, 9)})
	earlier := silence(t, r, shown, 0)
	if earlier.Roll != shown.Roll || !earlier.Gone[0] || earlier.Vars[0] != 9 {
		t.Error(told(earlier))
	}
}

// TestP173Moves: all that may be played, in order.
func TestP173Moves(t *testing.T) {
	r := rules{vars: "var v 0 9", turn: "if v = 9 then over end seat 1", play: "a -2 1, b 5 5, c 3 5 if ( a + c ) % 2 then refuse end if a = 1 and v = 1 then refuse end if v = 2 then refuse end"}.parsed(t)
	for v := int32(0); v < 10; v++ {
		p := changed(started(t, r), func(p *game.Position) { p.Vars[0] = v })
		var want []game.Move
		for a := int32(-2); a <= 1; a++ {
			for c := int32(3); c <= 5; c++ {
				if (a+c)%2 == 0 && (a != 1 || v != 1) && v != 2 && v != 9 {
					want = append(want, plays(a, 5, c))
				}
			}
		}
		l := r.Moves(p)
		if fmt.Sprint(l) != fmt.Sprint(want) {
			t.Errorf("%d: %v, want %v", v, l, want)
		}
		for _, m := range l {
			do(t, r, p, 1, m)
		}
	}
	none := rules{turn: "seat 0"}.parsed(t)
	if l := none.Moves(started(t, none)); fmt.Sprint(l) != fmt.Sprint([]game.Move{{}}) {
		t.Error(l)
	}
	gone := changed(started(t, none), func(p *game.Position) { p.Gone[0] = true })
	if l := none.Moves(gone); len(l) != 0 {
		t.Error(l)
	}
	refused := rules{turn: "seat 0", play: "refuse"}.parsed(t)
	if l := refused.Moves(started(t, refused)); len(l) != 0 {
		t.Error(l)
	}
	full := rules{turn: "seat 0", play: "a 1 8, b 1 8, c -2147483647 -2147483640"}.parsed(t)
	if l := full.Moves(started(t, full)); len(l) != 512 || !slices.Equal(l[0].Args, []int32{1, 1, -great}) || !slices.Equal(l[511].Args, []int32{8, 8, -great + 7}) || !slices.Equal(l[8].Args, []int32{1, 2, -great}) {
		t.Error(len(l))
	}
	top := rules{turn: "seat 0", play: "a 2147483646 2147483647"}.parsed(t)
	if l := top.Moves(started(t, top)); len(l) != 2 || l[1].Args[0] != great {
		t.Error(l)
	}
	rolled := do(t, none, started(t, none), 0, plays())
	rolled.Roll = game.Roll{Sides: 6}
	if none.Check(rolled) != api.ErrRange || len(none.Moves(rolled)) != 0 {
		t.Error("no cell, no throw")
	}
}

// TestP174: what each seat has of a pot.
func TestP174(t *testing.T) {
	const most = 1 << 50
	for _, x := range []struct {
		pays string
		pot  int
		want []int
	}{
		{"rest 1", 30, []int{0, 30, 0}}, {"rest 7", 30, []int{30, 0, 0}}, {"pay 1 4 rest 2", 30, []int{0, 4, 26}}, {"pay 1 4 pay 2 5 rest 1", 30, []int{0, 25, 5}}, {"pay 2 20 pay 0 20 rest 1", 30, []int{20, 0, 10}}, {"pay 2 20 pay 1 20 pay 0 20 rest 1", 30, []int{20, 10, 0}}, {"pay 2 30 rest 0", 30, []int{0, 0, 30}}, {"pay 0 31 rest 1", 30, []int{30, 0, 0}}, {"pay 0 1 rest 1", 0, []int{0, 0, 0}},
		{"pay 1 2147483647 rest 2", most, []int{0, 1<<30 - 1, most - 1<<30 + 1}}, {"pay 5 3 rest 2", 10, []int{3, 0, 7}}, {"pay v v rest v", 10, []int{0, 10, 0}}, {"pay 1 5 pay 1 6 rest 2", 10, []int{0, 10, 0}},
	} {
		r := rules{seats: 3, vars: "var v 0 9", start: "v = 1", pays: x.pays}.parsed(t)
		if l, err := r.Pays(started(t, r), x.pot); err != api.OK || !slices.Equal(l, x.want) {
			t.Errorf("%s of %d: %v, %s; want %v", x.pays, x.pot, l, err.Word(), x.want)
		}
		for _, pot := range []int{-1, most + 1, math.MinInt, math.MaxInt} {
			if l, err := r.Pays(started(t, r), pot); err != api.ErrRange || len(l) != 0 {
				t.Errorf("%d: %v, %s", pot, l, err.Word())
			}
		}
	}
	r := rules{vars: "var v 0 9", turn: "seat v"}.parsed(t)
	p := started(t, r)
	rolled := changed(p, func(p *game.Position) { p.Vars[0], p.Roll = 9, game.Roll{Sides: 2} })
	for _, pot := range []int{0, 10, -1, math.MaxInt} {
		for _, p := range []game.Position{p, rolled} {
			if l, err := r.Pays(p, pot); err != api.ErrState || len(l) != 0 {
				t.Errorf("%d: %v, %s", pot, l, err.Word())
			}
		}
	}
	ended := changed(p, func(p *game.Position) { p.Gone[0] = true })
	if l, err := r.Pays(ended, 10); err != api.OK || !slices.Equal(l, []int{10, 0}) {
		t.Error(l, err.Word())
	}
}

// TestP176Nil: nil rules.
func TestP176Nil(t *testing.T) {
	p := started(t, rules{}.parsed(t))
	for _, r := range []*game.Rules{nil, {}} {
		if r.Name() != "" || r.Seats() != 0 || len(r.Stakes()) != 0 || r.Digest() != (hash.Digest{}) || r.Code() != nil || len(r.Menu()) != 0 {
			t.Error("nil rules tell something")
		}
		for _, p := range []game.Position{p, {}} {
			if first, err := r.Start(p.Tips); err != api.ErrArg || told(first) != told(game.Position{}) {
				t.Error(told(first), err.Word())
			}
			if err := r.Check(p); err != api.ErrArg {
				t.Error(err.Word())
			}
			doNot(t, r, p, 0, plays(), api.ErrArg)
			silenceNot(t, r, p, 9, api.ErrArg)
			if l, err := r.Pays(p, -1); err != api.ErrArg || len(l) != 0 {
				t.Error(l, err.Word())
			}
			if r.Turn(p) != -1 || len(r.Moves(p)) != 0 {
				t.Error(r.Turn(p), r.Moves(p))
			}
		}
	}
}
