package game_test

import (
	"fmt"
	"math"
	"math/rand"
	"slices"
	"testing"

	"baize/api"
	"baize/compile"
	"baize/game"
	"baize/hash"
	"baize/syntax"
)

// other is another look at a game, by the chapter's words: a throw is a list
// of who has still to show, the mover last, from which are taken who has
// shown and who is gone.
type other struct {
	code      *compile.Code
	low, high []int32
	p         game.Position
	shows     []int
	seats     int
}

// turn is whose it is.
func (o *other) turn() int {
	if len(o.shows) > 0 {
		return o.shows[0]
	}
	out, _ := o.code.Run(compile.Turn, o.p.Vars, nil)
	for seat, gone := range o.p.Gone {
		if seat == out.Seat && !gone {
			return seat
		}
	}
	return -1
}

// settle has the position say who has to show next, or the throw done.
func (o *other) settle(throw bool) {
	switch {
	case len(o.shows) > 0:
		o.p.Roll.Next = o.shows[0]
	case throw:
		cell := o.p.Roll.Cell
		l := []int32{o.low[cell], int32(o.p.Roll.Sum%uint64(o.p.Roll.Sides)) + 1, o.high[cell]}
		slices.Sort(l)
		o.p.Vars[cell] = l[1] // the middle one
		o.p.Roll = game.Roll{}
	}
}

// play does a move that plays; false: it is refused.
func (o *other) play(args []int32) bool {
	seat := o.turn()
	out, err := o.code.Run(compile.Play, o.p.Vars, args)
	if err != api.OK || out.Refused {
		return false
	}
	o.p.Vars = out.Vars
	if out.Sides > 0 {
		o.p.Roll = game.Roll{Cell: out.Cell, Sides: out.Sides, Mover: seat}
		for k := 1; k <= o.seats; k++ {
			if next := (seat + k) % o.seats; !o.p.Gone[next] {
				o.shows = append(o.shows, next)
			}
		}
	}
	o.settle(false)
	return true
}

// show does a move that throws.
func (o *other) show(d hash.Digest) {
	o.p.Tips[o.shows[0]] = d
	o.p.Roll.Sum += hash.Num(d)
	o.shows = o.shows[1:]
	o.settle(true)
}

// silent has a seat be silent.
func (o *other) silent(who int) {
	out, _ := o.code.Run(compile.Silent, o.p.Vars, []int32{int32(who)})
	o.p.Vars = out.Vars
	o.p.Gone[who] = true
	throw := len(o.shows) > 0
	o.shows = slices.DeleteFunc(o.shows, func(seat int) bool { return seat == who })
	o.settle(throw)
}

// noisy are rules in which much happens: throws for several cells, refusals, and silences that change cells.
func noisy(seats int) rules {
	return rules{
		seats: seats, vars: "var turns 0 40 var mover -1 9 var a 2 5 var b 0 900 var l [ 3 ] -3 3",
		turn:  "if turns > 35 then over end if l [ 0 ] = 3 and turns > 9 then seat 0 - 1 end seat mover",
		play:  "x 0 4, y -1 1 if x = 4 and y = 0 then refuse end turns = turns + 1 mover = ( mover + x + 1 ) % " + fmt.Sprint(seats) + " l [ y + 1 ] = l [ y + 1 ] + y if x = 1 then roll a 6 end if x = 2 then roll b 1000 end if x = 3 then roll turns 2 end",
		quiet: "l [ 1 ] = who - 2 if mover = who then mover = ( mover + 1 ) % " + fmt.Sprint(seats) + " end",
		pays:  "pay mover b for i 0 2 do pay i + a l [ i ] * 7 end rest a",
	}
}

// walk plays a game by chance, and holds each position against the other look.
func walk(t *testing.T, seats int, r *rand.Rand) (throws, silences int) {
	t.Helper()
	text := noisy(seats)
	g := text.parsed(t)
	tree, _, _ := syntax.Parse(text.text())
	secrets := make([]int, seats)
	p, err := g.Start(tips(seats, 200))
	if err != api.OK {
		t.Fatal(err.Word())
	}
	o := &other{code: g.Code(), p: game.Clone(p), seats: seats}
	for _, v := range tree.Vars {
		for range max(v.Size, 1) {
			o.low, o.high = append(o.low, int32(v.Low)), append(o.high, int32(v.High))
		}
	}
	for {
		is(t, "on the way", p, o.p)
		if g.Check(p) != api.OK || g.Turn(p) != o.turn() {
			t.Fatalf("%s: %s, turn %d, want %d", told(p), g.Check(p).Word(), g.Turn(p), o.turn())
		}
		if back, err := game.Decode(game.Encode(p)); err != api.OK || !game.Same(back, p) {
			t.Fatalf("%s: %s, %s", told(p), told(back), err.Word())
		}
		turn := o.turn()
		if turn == -1 {
			break
		}
		if turn >= 0 && o.p.Gone[turn] {
			t.Fatalf("%s: who is gone has the turn", told(p))
		}
		who := r.Intn(seats)
		switch {
		case r.Intn(12) == 0:
			next, err := g.Silence(p, who)
			if o.p.Gone[who] {
				if err != api.ErrTwice {
					t.Fatal(err.Word())
				}
				continue
			}
			p = next
			o.silent(who)
			silences++
		case len(o.shows) > 0:
			secrets[turn]++
			d := reveal(turn, 200-secrets[turn])
			p = do(t, g, p, turn, game.Move{Throw: true, Reveal: d})
			o.show(d)
			throws++
		default:
			args := []int32{int32(r.Intn(6)), int32(r.Intn(4) - 1)}
			next, err := g.Do(p, turn, plays(args...))
			listed := slices.ContainsFunc(g.Moves(p), func(m game.Move) bool { return slices.Equal(m.Args, args) })
			if may := o.play(args); may != (err == api.OK) || may != listed {
				t.Fatalf("%s, %v: %s", told(p), args, err.Word())
			} else if may {
				p = next
			}
		}
	}
	paid(t, g, o)
	return throws, silences
}

// paid holds what is paid against the other look; it is the pot, whatever the rules say.
func paid(t *testing.T, g *game.Rules, o *other) {
	t.Helper()
	out, _ := o.code.Run(compile.Pay, o.p.Vars, nil)
	for _, pot := range []int{0, 1, 9, 500, 1 << 20, 1 << 50} {
		want, left := make([]int, o.seats), pot
		for seat, ask := range out.Asks {
			want[seat] = min(int(ask), left)
			left -= want[seat]
		}
		want[out.Rest] += left
		total := 0
		got, err := g.Pays(o.p, pot)
		for _, n := range got {
			total += n
		}
		if err != api.OK || !slices.Equal(got, want) || total != pot {
			t.Errorf("%s of %d: %v, %s; want %v", told(o.p), pot, got, err.Word(), want)
		}
	}
}

// TestP176Walk: games by chance: each position may be, has a mover or is over, and what is paid is the pot (P17.2 to P17.4, P17.6, T7).
func TestP176Walk(t *testing.T) {
	r := rand.New(rand.NewSource(17))
	var throws, silences int
	for seats := 2; seats <= 8; seats++ {
		for range 150 {
			a, b := walk(t, seats, r)
			throws, silences = throws+a, silences+b
		}
	}
	if throws < 1000 || silences < 1000 {
		t.Error(throws, silences)
	}
}

// TestP176Kept: what is handed in is neither kept nor changed, and answers are new memory.
func TestP176Kept(t *testing.T) {
	text := rules{seats: 3, vars: "var v 0 9 var l [ 2 ] 0 9", turn: "if v = 9 then over end seat v % 2", play: "a 0 3, b 0 1 v = v + 1 l [ b ] = a if a = 2 then roll v 6 end", quiet: "l [ 0 ] = who", pays: "pay 1 4 rest 2"}
	tree, _, _ := syntax.Parse(text.text())
	g, err := game.New(tree)
	if err != api.OK {
		t.Fatal(err.Word())
	}
	same := text.parsed(t)
	clear(tree.Stakes)
	clear(tree.Vars)
	clear(tree.Params)
	clear(tree.Play)
	clear(g.Stakes())
	clear(g.Menu())
	clear(g.Code().Instrs(compile.Play))
	if !slices.Equal(g.Stakes(), []int{5, 5, 5}) || !slices.Equal(g.Menu(), [][2]int32{{0, 3}, {0, 1}}) || g.Digest() != same.Digest() {
		t.Error("rules keep what was handed in, or hand out what they keep")
	}
	handed := tips(3, 9)
	p, _ := g.Start(handed)
	clear(handed)
	wipe := func(p game.Position) {
		clear(p.Vars)
		clear(p.Gone)
		clear(p.Tips)
	}
	ended := changed(p, func(p *game.Position) { p.Vars[0] = 9 })
	rolled := do(t, g, p, 0, plays(2, 0))
	for _, p := range []game.Position{p, rolled, silence(t, g, rolled, 0), ended} {
		is(t, "tips", game.Position{Tips: p.Tips}, game.Position{Tips: tips(3, 9)})
		was := told(p)
		turn := g.Turn(p)
		args := []int32{2, 1}
		for _, m := range []game.Move{{Args: args}, throws(reveal(turn, 8))} {
			next, _ := g.Do(p, turn, m)
			wipe(next)
		}
		for who := range 3 {
			next, _ := g.Silence(p, who)
			wipe(next)
		}
		l := g.Moves(p)
		for _, m := range l {
			clear(m.Args[:cap(m.Args)])
			m.Args[0] = 77
		}
		for i, m := range l {
			if m.Args[0] != 77 || m.Args[1] != 0 || g.Moves(p)[i].Args[0] == 77 {
				t.Error("moves share memory")
			}
		}
		pays, _ := g.Pays(p, 9)
		clear(pays)
		b := game.Encode(p)
		back, _ := game.Decode(b)
		clear(b)
		if told(back) != was {
			t.Error("a position shares its bytes")
		}
		wipe(back)
		if told(p) != was || !slices.Equal(args, []int32{2, 1}) {
			t.Errorf("%s is changed to %s", was, told(p))
		}
	}
	b := game.EncodeMove(plays(1, 2))
	m, _ := game.DecodeMove(b)
	clear(b)
	if !game.SameMove(m, plays(1, 2)) {
		t.Error("a move shares its bytes")
	}
}

// TestR1: whatever the position, and whatever is asked of it, there is an answer; and no position that may not be.
func TestR1(t *testing.T) {
	r := rand.New(rand.NewSource(1))
	numbers := []int{math.MinInt, least, -2, -1, 0, 0, 0, 1, 1, 2, 3, 6, 8, 1000, great, math.MaxInt}
	number := func() int { return numbers[r.Intn(len(numbers))] }
	var may, moved int
	g := noisy(3).parsed(t)
	for range 40000 {
		p := started(t, g)
		for range r.Intn(3) {
			switch r.Intn(6) {
			case 0:
				p.Vars = p.Vars[:r.Intn(len(p.Vars)+1)]
			case 1:
				p.Gone = make([]bool, r.Intn(5))
			case 2:
				p.Tips = make([]hash.Digest, r.Intn(5))
			case 3:
				p.Roll = game.Roll{Cell: number(), Sides: number(), Mover: number(), Next: number(), Sum: uint64(number())}
			default:
				for i := range p.Vars {
					p.Vars[i] = int32(r.Intn(7) - 1)
				}
				for i := range p.Gone {
					p.Gone[i] = r.Intn(4) == 0
				}
			}
		}
		if game.Same(p, game.Clone(p)) && g.Check(p) == api.OK {
			may++
		}
		game.Decode(game.Encode(p))
		g.Moves(p)
		g.Pays(p, number())
		for _, next := range []func() (game.Position, api.Errno){
			func() (game.Position, api.Errno) { return g.Do(p, g.Turn(p), plays(int32(r.Intn(5)), 0)) },
			func() (game.Position, api.Errno) { return g.Do(p, number(), throws(reveal(r.Intn(3), 8))) },
			func() (game.Position, api.Errno) { return g.Silence(p, number()) },
		} {
			p, err := next()
			if err == api.OK && g.Check(p) != api.OK || err != api.OK && told(p) != told(game.Position{}) {
				t.Fatalf("%s, %s", told(p), err.Word())
			}
			if err == api.OK {
				moved++
			}
		}
	}
	if may < 10000 || moved < 10000 {
		t.Error(may, moved)
	}
}

// TestR3: a list that is nil and one that is empty are one.
func TestR3(t *testing.T) {
	g := rules{turn: "seat 1"}.parsed(t)
	first := started(t, g)
	for _, vars := range [][]int32{nil, {}} {
		p := changed(first, func(p *game.Position) { p.Vars = vars })
		for _, args := range [][]int32{nil, {}} {
			is(t, "behind a move", do(t, g, p, 1, plays(args...)), first)
			is(t, "behind a move", do(t, g, p, 1, game.Move{Args: args}), first)
		}
		if !game.Same(p, first) || game.Of(p) != game.Of(first) || len(g.Moves(p)) != 1 {
			t.Error(told(p))
		}
	}
}
