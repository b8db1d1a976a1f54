package chance_test

import (
	"math"
	"math/big"
	"math/rand"
	"slices"
	"testing"

	"baize/api"
	"baize/chance"
	"baize/hash"
)

const (
	great = math.MaxInt32
	top   = math.MaxUint64
)

// numbers gives the digests of numbers.
func numbers(l ...uint64) []hash.Digest {
	var out []hash.Digest
	for _, n := range l {
		out = append(out, hash.FromNum(n))
	}
	return out
}

// TestExample: the chapter's.
func TestExample(t *testing.T) {
	if l := chance.Order(1, []bool{false, false, false, true}); !slices.Equal(l, []int{2, 0, 1}) {
		t.Error(l)
	}
	if n, err := chance.Throw(6, numbers(5, 8)); n != 2 || err != api.OK {
		t.Error(n, err.Word())
	}
	if n, err := chance.Needed(6, 2, numbers(5)); n != 2 || err != api.OK {
		t.Error(n, err.Word())
	}
}

// TestP182Fulfils: a reveal whose digest the tip is, and no other one.
func TestP182Fulfils(t *testing.T) {
	for n := range uint64(50) {
		d := secret(n)
		tip := hash.One(d)
		if !chance.Fulfils(tip, d) || chance.Fulfils(d, tip) || chance.Fulfils(d, d) || chance.Fulfils(tip, tip) || chance.Fulfils(zero, d) || chance.Fulfils(tip, zero) {
			t.Errorf("%x", d)
		}
		for i := range d {
			other := d
			other[i]++
			if chance.Fulfils(tip, other) {
				t.Errorf("%x by %x", tip, other)
			}
		}
	}
	if !chance.Fulfils(hash.One(zero), zero) {
		t.Error("the zero digest is a reveal like others")
	}
}

// order is another look at Order: seats are counted on from the mover, round, so often as there are seats.
func order(mover int, gone []bool) []int {
	l := []int{}
	for k := range gone {
		if seat := (mover + 1 + k) % len(gone); !gone[seat] {
			l = append(l, seat)
		}
	}
	return l
}

// TestP182Order: whoever moves, and whoever is gone.
func TestP182Order(t *testing.T) {
	for seats := range 9 {
		for set := range 1 << seats {
			gone := make([]bool, seats)
			for seat := range gone {
				gone[seat] = set>>seat&1 == 1
			}
			was := slices.Clone(gone)
			for mover := range seats {
				if got, want := chance.Order(mover, gone), order(mover, gone); !slices.Equal(got, want) {
					t.Errorf("%d of %v: %v, want %v", mover, gone, got, want)
				}
			}
			for _, mover := range []int{math.MinInt, -2, -1, seats, seats + 1, math.MaxInt} {
				if got := chance.Order(mover, gone); len(got) != 0 {
					t.Errorf("%d of %v: %v", mover, gone, got)
				}
			}
			if !slices.Equal(gone, was) {
				t.Errorf("%v is changed", was)
			}
		}
	}
	if got := chance.Order(0, nil); len(got) != 0 {
		t.Error(got)
	}
	if many := make([]bool, 100000); !slices.Equal(chance.Order(70000, many), order(70000, many)) {
		t.Error("of many seats")
	}
}

// TestP183Throw: what reveals throw, of few and many sides, and where the sum goes round.
func TestP183Throw(t *testing.T) {
	for _, x := range []struct {
		sides   int
		reveals []uint64
		want    int
	}{
		{6, nil, 1}, {6, []uint64{0}, 1}, {6, []uint64{5}, 6}, {6, []uint64{6}, 1}, {6, []uint64{7, 9}, 5}, {6, []uint64{9, 7}, 5}, {6, []uint64{1, 2, 3, 4, 5, 6, 7, 8}, 1},
		{1, []uint64{77, top}, 1}, {2, []uint64{top}, 2}, {2, []uint64{top, top}, 1}, {10, []uint64{top}, 6}, {10, []uint64{top, 1}, 1}, {10, []uint64{top, 5}, 5}, {7, []uint64{1 << 63, 1 << 63}, 1}, {7, []uint64{1 << 63, 1 << 63, 3}, 4}, {1000, []uint64{top, top, 1001}, 1000},
		{great, []uint64{great - 1}, great}, {great, []uint64{great}, 1}, {great, []uint64{top}, 4}, {great, []uint64{top - 4}, great},
	} {
		if n, err := chance.Throw(x.sides, numbers(x.reveals...)); n != x.want || err != api.OK {
			t.Errorf("%d sides, %v: %d, %s; want %d", x.sides, x.reveals, n, err.Word(), x.want)
		}
	}
	for _, sides := range []int{math.MinInt, -6, -1, 0, great + 1, 1 << 40, math.MaxInt} {
		for _, l := range [][]hash.Digest{nil, numbers(5, 8)} {
			if n, err := chance.Throw(sides, l); n != 0 || err != api.ErrRange {
				t.Errorf("%d sides: %d, %s", sides, n, err.Word())
			}
		}
	}
}

// TestP183NeededRange: sides, and what is wanted of them, that can't be.
func TestP183NeededRange(t *testing.T) {
	for _, x := range []struct{ sides, want int }{
		{math.MinInt, 1}, {-1, 1}, {-1, -1}, {0, 0}, {0, 1}, {great + 1, 1}, {math.MaxInt, math.MaxInt},
		{6, math.MinInt}, {6, -1}, {6, 0}, {6, 7}, {6, math.MaxInt}, {1, 0}, {1, 2}, {great, 0}, {great, great + 1},
	} {
		for _, l := range [][]hash.Digest{nil, numbers(5, 8)} {
			if n, err := chance.Needed(x.sides, x.want, l); n != 0 || err != api.ErrRange {
				t.Errorf("%d of %d sides: %d, %s", x.want, x.sides, n, err.Word())
			}
		}
	}
}

// tried is another look at Needed: one number tried behind the other.
func tried(sides, want int, others []hash.Digest) uint64 {
	for n := uint64(0); ; n++ {
		if got, _ := chance.Throw(sides, append(slices.Clone(others), hash.FromNum(n))); got == want {
			return n
		}
	}
}

// reckoned is a third one, with great numbers: the least sum from the others' on, that throws it; or the first one behind 2^64.
func reckoned(sides, want int, others uint64) uint64 {
	s, w, all := big.NewInt(int64(sides)), big.NewInt(int64(want-1)), new(big.Int).SetUint64(others)
	n := new(big.Int).Sub(w, all)
	n.Mod(n, s)
	round := new(big.Int).Lsh(big.NewInt(1), 64)
	if new(big.Int).Add(all, n).Cmp(round) >= 0 {
		n.Sub(round, all)
		n.Add(n, w)
	}
	return n.Uint64()
}

// TestP183Needed: the least number that throws what is wanted, also where the sum goes round.
func TestP183Needed(t *testing.T) {
	for sides := 1; sides <= 13; sides++ {
		for want := 1; want <= sides; want++ {
			for k := range uint64(30) {
				for _, l := range [][]uint64{{k}, {top - k}, {k, top - 2*k}, {1 << 63, 1<<63 + k}, {top, top, k}} {
					others := numbers(l...)
					if n, err := chance.Needed(sides, want, others); err != api.OK || n != tried(sides, want, others) {
						t.Errorf("%d of %d sides, %v: %d, %s; want %d", want, sides, l, n, err.Word(), tried(sides, want, others))
					}
				}
			}
			if n, err := chance.Needed(sides, want, nil); err != api.OK || n != uint64(want-1) {
				t.Errorf("%d of %d sides, alone: %d, %s", want, sides, n, err.Word())
			}
		}
	}
	for _, x := range []struct {
		sides, want int
		other, n    uint64
	}{
		{great, great, top, great}, {great, 1, top, 1}, {great, 4, top, 0}, {great, 5, top, 5}, {10, 6, top, 0}, {10, 7, top, 7}, {10, 10, top, 10}, {10, 6, top - 1, 1},
	} {
		if n, err := chance.Needed(x.sides, x.want, numbers(x.other)); n != x.n || err != api.OK {
			t.Errorf("%d of %d sides, %d: %d, %s; want %d", x.want, x.sides, x.other, n, err.Word(), x.n)
		}
	}
}

// TestP185: whatever the others reveal, each throw has a number that throws it, and the least one is what is told.
func TestP185(t *testing.T) {
	r := rand.New(rand.NewSource(18))
	round := 0
	for range 100000 {
		sides := 1 + r.Intn(1<<r.Intn(31))
		want := 1 + r.Intn(sides)
		others := numbers(r.Uint64()>>r.Intn(64), top-uint64(r.Intn(2*sides)))[r.Intn(2):]
		all := uint64(0)
		for _, d := range others {
			all += hash.Num(d)
		}
		was := slices.Clone(others)
		n, err := chance.Needed(sides, want, others)
		got, _ := chance.Throw(sides, append(slices.Clone(others), hash.FromNum(n)))
		if err != api.OK || got != want || n != reckoned(sides, want, all) || !slices.Equal(others, was) {
			t.Fatalf("%d of %d sides, %v: %d, %s; that throws %d", want, sides, others, n, err.Word(), got)
		}
		if all+n < all {
			round++
		}
	}
	if round < 1000 {
		t.Error(round)
	}
}

// TestR3: no list, and one of nothing, are one; and no argument is changed.
func TestR3(t *testing.T) {
	for _, l := range [][]hash.Digest{nil, {}} {
		if n, err := chance.Throw(6, l); n != 1 || err != api.OK {
			t.Error(n, err.Word())
		}
		if n, err := chance.Needed(6, 4, l); n != 3 || err != api.OK {
			t.Error(n, err.Word())
		}
	}
	reveals := numbers(5, 8)
	chance.Throw(6, reveals)
	chance.Needed(6, 2, reveals)
	if !slices.Equal(reveals, numbers(5, 8)) {
		t.Error(reveals)
	}
	seats := chance.Order(0, make([]bool, 3))
	clear(seats)
	if !slices.Equal(chance.Order(0, make([]bool, 3)), []int{1, 2, 0}) {
		t.Error("an answer isn't new memory")
	}
}
