package game_test

import (
	"bytes"
	"fmt"
	"math"
	"math/rand"
	"slices"
	"testing"

	"baize/api"
	"baize/game"
	"baize/hash"
	"baize/octet"
)

// small is a position, and smallBytes are its bytes.
var (
	small      = game.Position{Vars: []int32{3, -2}, Gone: []bool{false, true}, Tips: []hash.Digest{{5, 1}, {200}}, Roll: game.Roll{Cell: 1, Sides: 6, Mover: 1, Next: 0, Sum: 300}}
	smallBytes = []byte{2, 6, 3, 2, 0, 1, 2, 133, 2, 200, 1, 2, 12, 2, 0, 172, 2}
)

// TestP175Encode: positions' bytes, and their digests.
func TestP175Encode(t *testing.T) {
	for _, x := range []struct {
		p    game.Position
		want []byte
	}{
		{small, smallBytes},
		{game.Position{}, make([]byte, 8)},
		{game.Position{Vars: []int32{}, Gone: []bool{}, Tips: []hash.Digest{}}, make([]byte, 8)},
		{game.Position{Vars: []int32{least, great}}, []byte{2, 255, 255, 255, 255, 15, 254, 255, 255, 255, 15, 0, 0, 0, 0, 0, 0, 0}},
		{game.Position{Roll: game.Roll{Cell: -1, Sides: -2, Mover: -3, Next: -4}}, []byte{0, 0, 0, 1, 3, 5, 7, 0}},
	} {
		if b := game.Encode(x.p); !bytes.Equal(b, x.want) {
			t.Errorf("%s: %v, want %v", told(x.p), b, x.want)
		}
		if game.Of(x.p) != hash.Of(x.want) {
			t.Errorf("%s: %v", told(x.p), game.Of(x.p))
		}
		back, err := game.Decode(x.want)
		if err != api.OK || told(back) != told(x.p) {
			t.Errorf("%v: %s, %s", x.want, told(back), err.Word())
		}
	}
	long := game.Position{Vars: make([]int32, 200000), Gone: make([]bool, 200000), Tips: make([]hash.Digest, 200000)}
	if b := game.Encode(long); len(b) != 3*(200000+3)+5 {
		t.Error(len(b))
	}
}

// TestP175Most: how many cells, gone and tips are read.
func TestP175Most(t *testing.T) {
	for _, x := range []struct {
		cells, gone, tips int
		want              api.Errno
	}{
		{64, 8, 8, api.OK}, {65, 8, 8, api.ErrRange}, {64, 9, 8, api.ErrRange}, {64, 8, 9, api.ErrRange}, {0, 8, 0, api.OK}, {1, 0, 8, api.OK},
	} {
		p := game.Position{Vars: make([]int32, x.cells), Gone: make([]bool, x.gone), Tips: make([]hash.Digest, x.tips), Roll: game.Roll{Cell: math.MinInt, Sides: math.MaxInt, Mover: math.MinInt, Next: math.MaxInt, Sum: math.MaxUint64}}
		back, err := game.Decode(game.Encode(p))
		if err != x.want || err == api.OK && told(back) != told(p) || err != api.OK && told(back) != told(game.Position{}) {
			t.Errorf("%v: %s, %s", x, told(back), err.Word())
		}
	}
}

// endless are a number's bytes that go on and on.
var endless = bytes.Repeat([]byte{255}, 10)

// TestP175Decode: bytes that are no position's, and which error counts.
func TestP175Decode(t *testing.T) {
	for n := range len(smallBytes) {
		if p, err := game.Decode(smallBytes[:n]); err != api.ErrShort || told(p) != told(game.Position{}) {
			t.Errorf("%v: %s, %s", smallBytes[:n], told(p), err.Word())
		}
		torn := append(slices.Clone(smallBytes[:n]), endless...)
		if p, err := game.Decode(torn); err == api.OK || told(p) != told(game.Position{}) {
			t.Errorf("%v: %s", torn, told(p))
		}
	}
	beyond := func(n int64) []byte { return octet.PutInt(nil, n) }
	for i, x := range []struct {
		b    []byte
		want api.Errno
	}{
		{append(slices.Clone(smallBytes), 0), api.ErrLong}, {nil, api.ErrShort}, {make([]byte, 7), api.ErrShort}, {make([]byte, 9), api.ErrLong}, {[]byte{65}, api.ErrRange}, {[]byte{64}, api.ErrShort}, {[]byte{0, 9}, api.ErrRange}, {[]byte{0, 8}, api.ErrShort}, {[]byte{0, 1, 2}, api.ErrRange}, {[]byte{0, 1, 1, 9}, api.ErrRange}, {[]byte{0, 0, 8}, api.ErrShort},
		{slices.Concat([]byte{1}, beyond(great)), api.ErrShort}, {slices.Concat([]byte{1}, beyond(great+1)), api.ErrRange}, {slices.Concat([]byte{1}, beyond(least)), api.ErrShort}, {slices.Concat([]byte{1}, beyond(least-1)), api.ErrRange}, {slices.Concat([]byte{3}, beyond(math.MaxInt64)), api.ErrRange}, {slices.Concat([]byte{3}, beyond(math.MinInt64)), api.ErrRange},
		{slices.Concat([]byte{2}, beyond(great+1), endless), api.ErrRange}, {slices.Concat([]byte{2}, endless, beyond(great+1)), api.ErrForm}, {slices.Concat([]byte{2, 128, 0}, beyond(great+1)), api.ErrForm}, {slices.Concat([]byte{1}, beyond(great+1), make([]byte, 99)), api.ErrRange}, {[]byte{128, 0}, api.ErrForm}, {endless, api.ErrForm},
		{[]byte{0, 0, 0, 0, 0, 0, 128, 0, 0}, api.ErrForm}, {[]byte{0, 0, 0, 0, 0, 0, 0, 128, 0}, api.ErrForm}, {slices.Concat(make([]byte, 7), endless), api.ErrForm},
	} {
		if p, err := game.Decode(x.b); err != x.want || told(p) != told(game.Position{}) {
			t.Errorf("%d: %v: %s, %s; want %s", i, x.b, told(p), err.Word(), x.want.Word())
		}
	}
}

// TestP175Move: moves' bytes, there and back, and which are the same.
func TestP175Move(t *testing.T) {
	five := game.Move{Args: []int32{1, 2, 3, 4, 5}}
	for _, x := range []struct {
		m    game.Move
		want []byte
	}{
		{game.Move{}, []byte{0, 0}}, {plays(7, -3), []byte{0, 2, 14, 5}}, {plays(0, 0, 0, 0), []byte{0, 4, 0, 0, 0, 0}}, {plays(least, great), []byte{0, 2, 255, 255, 255, 255, 15, 254, 255, 255, 255, 15}},
		{throws(hash.Digest{5, 1}), []byte{1, 133, 2}}, {throws(hash.Digest{}), []byte{1, 0}}, {throws(hash.FromNum(math.MaxUint64)), []byte{1, 255, 255, 255, 255, 255, 255, 255, 255, 255, 1}}, {five, []byte{0, 5, 2, 4, 6, 8, 10}},
	} {
		if b := game.EncodeMove(x.m); !bytes.Equal(b, x.want) {
			t.Errorf("%+v: %v, want %v", x.m, b, x.want)
		}
		back, err := game.DecodeMove(x.want)
		if len(x.m.Args) > 4 {
			if err != api.ErrRange || fmt.Sprint(back) != fmt.Sprint(game.Move{}) {
				t.Errorf("%v: %v, %s", x.want, back, err.Word())
			}
		} else if err != api.OK || fmt.Sprint(back) != fmt.Sprint(x.m) {
			t.Errorf("%v: %v, %s", x.want, back, err.Word())
		}
		for n := range len(x.want) {
			if back, err := game.DecodeMove(x.want[:n]); err == api.OK || fmt.Sprint(back) != fmt.Sprint(game.Move{}) {
				t.Errorf("%v: %v, %s", x.want[:n], back, err.Word())
			}
		}
	}
	beyond := func(n int64) []byte { return octet.PutInt(nil, n) }
	for _, x := range []struct {
		b    []byte
		want api.Errno
	}{
		{nil, api.ErrShort}, {[]byte{0}, api.ErrShort}, {[]byte{1}, api.ErrShort}, {[]byte{2}, api.ErrRange}, {[]byte{2, 0}, api.ErrRange}, {[]byte{128, 0}, api.ErrForm}, {[]byte{0, 5}, api.ErrRange}, {[]byte{0, 4}, api.ErrShort}, {[]byte{0, 0, 0}, api.ErrLong}, {[]byte{1, 0, 0}, api.ErrLong}, {slices.Concat([]byte{1}, endless), api.ErrForm}, {[]byte{1, 128, 0}, api.ErrForm}, {[]byte{0, 1, 128, 0}, api.ErrForm},
		{slices.Concat([]byte{0, 1}, beyond(great+1)), api.ErrRange}, {slices.Concat([]byte{0, 1}, beyond(least-1)), api.ErrRange}, {slices.Concat([]byte{0, 2}, beyond(math.MaxInt64)), api.ErrRange}, {slices.Concat([]byte{0, 2}, endless, beyond(great+1)), api.ErrForm}, {slices.Concat([]byte{0, 1}, beyond(least-1), []byte{7}), api.ErrRange},
	} {
		if m, err := game.DecodeMove(x.b); err != x.want || fmt.Sprint(m) != fmt.Sprint(game.Move{}) {
			t.Errorf("%v: %v, %s; want %s", x.b, m, err.Word(), x.want.Word())
		}
	}
}

// TestP175Same: positions are the same, if all is; moves, if their bytes are.
func TestP175Same(t *testing.T) {
	if !game.Same(small, small) || !game.Same(game.Position{}, game.Position{Vars: []int32{}, Gone: []bool{}, Tips: []hash.Digest{}}) {
		t.Error("a position isn't the same as itself")
	}
	for i, change := range []func(p *game.Position){
		func(p *game.Position) { p.Vars[1]++ }, func(p *game.Position) { p.Vars = p.Vars[:1] }, func(p *game.Position) { p.Vars = append(p.Vars, 0) }, func(p *game.Position) { p.Gone[0] = true }, func(p *game.Position) { p.Gone = p.Gone[:1] }, func(p *game.Position) { p.Gone = nil }, func(p *game.Position) { p.Tips[1][7]++ }, func(p *game.Position) { p.Tips = p.Tips[:1] },
		func(p *game.Position) { p.Roll.Cell++ }, func(p *game.Position) { p.Roll.Sides++ }, func(p *game.Position) { p.Roll.Mover++ }, func(p *game.Position) { p.Roll.Next++ }, func(p *game.Position) { p.Roll.Sum++ },
	} {
		p := changed(small, change)
		if game.Same(p, small) || game.Same(small, p) || game.Of(p) == game.Of(small) {
			t.Errorf("%d: %s", i, told(p))
		}
	}
	d := hash.Digest{1}
	for _, x := range []struct {
		a, b game.Move
		want bool
	}{
		{game.Move{}, plays(), true}, {plays(), game.Move{Args: []int32{}}, true}, {plays(1), plays(1), true}, {plays(1), plays(2), false}, {plays(1), plays(1, 0), false}, {plays(1), plays(), false}, {plays(1, 2), plays(2, 1), false}, {throws(d), throws(d), true}, {throws(d), throws(hash.Digest{}), false}, {throws(hash.Digest{}), plays(), false},
		{plays(1), game.Move{Args: []int32{1}, Reveal: d}, true}, {throws(d), game.Move{Throw: true, Args: []int32{1}, Reveal: d}, true},
	} {
		if game.SameMove(x.a, x.b) != x.want || game.SameMove(x.b, x.a) != x.want {
			t.Errorf("%+v, %+v", x.a, x.b)
		}
	}
}

// TestP175Any: bytes by chance, and positions' that were touched: what is read is written so.
func TestP175Any(t *testing.T) {
	r := rand.New(rand.NewSource(17))
	read := 0
	for n := range 60000 {
		b := make([]byte, r.Intn(12))
		r.Read(b)
		if n%2 == 0 {
			b = slices.Clone(smallBytes)
			b[r.Intn(len(b))] = byte(r.Intn(256))
		}
		if p, err := game.Decode(b); err == api.OK {
			read++
			if !bytes.Equal(game.Encode(p), b) || game.Of(p) != hash.Of(b) {
				t.Fatalf("%v: %s", b, told(p))
			}
		}
		if m, err := game.DecodeMove(b); err == api.OK {
			read++
			if !bytes.Equal(game.EncodeMove(m), b) {
				t.Fatalf("%v: %v", b, m)
			}
		}
	}
	if read < 1000 {
		t.Error(read)
	}
}

// TestP175Clone: one that is the same, and shares nothing.
func TestP175Clone(t *testing.T) {
	p := game.Clone(small)
	is(t, "a clone", p, small)
	was := told(small)
	p.Vars[0], p.Gone[0], p.Tips[0], p.Roll.Sum = 99, true, hash.Digest{9}, 9
	if told(small) != was {
		t.Error("a clone shares memory")
	}
	is(t, "of nothing", game.Clone(game.Position{}), game.Position{})
}
