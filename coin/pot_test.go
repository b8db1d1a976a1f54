package coin_test

import (
	"math"
	"slices"
	"testing"

	"baize/api"
	"baize/coin"
)

// pot gives one that has to be.
func pot(t *testing.T, amount, seats int) *coin.Pot {
	t.Helper()
	p, err := coin.NewPot(amount, seats)
	if p == nil || err != api.OK {
		t.Fatalf("NewPot(%d, %d): %s", amount, seats, err.Word())
	}
	return p
}

// has holds a pot against what is left of it and what its seats have.
func has(t *testing.T, p *coin.Pot, left int, pays ...int) {
	t.Helper()
	if p.Left() != left || !slices.Equal(p.Pays(), pays) {
		t.Errorf("%d left, seats have %v; want %d, %v", p.Left(), p.Pays(), left, pays)
	}
}

// TestP33NewPot: which pots there are.
func TestP33NewPot(t *testing.T) {
	has(t, pot(t, 0, 1), 0, 0)
	has(t, pot(t, 9, 3), 9, 0, 0, 0)
	has(t, pot(t, coin.Most, 8), coin.Most, 0, 0, 0, 0, 0, 0, 0, 0)
	for _, x := range []struct {
		amount, seats int
		err           api.Errno
	}{
		{-1, 2, api.ErrRange}, {coin.Most + 1, 2, api.ErrRange}, {math.MinInt, 0, api.ErrRange}, {-1, 9, api.ErrRange},
		{5, 0, api.ErrArg}, {5, -1, api.ErrArg}, {5, 9, api.ErrArg}, {0, math.MaxInt, api.ErrArg}, {0, math.MinInt, api.ErrArg},
	} {
		if p, err := coin.NewPot(x.amount, x.seats); p != nil || err != x.err {
			t.Errorf("NewPot(%d, %d): %v, %s", x.amount, x.seats, p, err.Word())
		}
	}
}

// TestP33Pay: as much as is asked, as far as it goes, for the seat that is named, or the seat 0.
func TestP33Pay(t *testing.T) {
	p := pot(t, 20, 3)
	for _, x := range []struct {
		seat, ask, paid, left int
		pays                  []int
	}{
		{2, 4, 4, 16, []int{0, 0, 4}}, {2, 1, 1, 15, []int{0, 0, 5}}, {1, 0, 0, 15, []int{0, 0, 5}}, {1, -5, 0, 15, []int{0, 0, 5}}, {1, math.MinInt, 0, 15, []int{0, 0, 5}},
		{3, 2, 2, 13, []int{2, 0, 5}}, {-1, 1, 1, 12, []int{3, 0, 5}}, {math.MaxInt, 1, 1, 11, []int{4, 0, 5}}, {math.MinInt, 1, 1, 10, []int{5, 0, 5}}, {7, 1, 1, 9, []int{6, 0, 5}},
		{1, math.MaxInt, 9, 0, []int{6, 9, 5}}, {0, 1, 0, 0, []int{6, 9, 5}},
	} {
		if paid := p.Pay(x.seat, x.ask); paid != x.paid {
			t.Errorf("Pay(%d, %d): %d, want %d", x.seat, x.ask, paid, x.paid)
		}
		has(t, p, x.left, x.pays...)
	}
	p = pot(t, 6, 2)
	if p.Pay(0, 6) != 6 {
		t.Error("all that is left may be asked")
	}
	has(t, p, 0, 6, 0)
}

// TestP33Rest: a seat has what is left, too.
func TestP33Rest(t *testing.T) {
	for _, x := range []struct {
		seat int
		want []int
	}{
		{0, []int{7, 3}}, {1, []int{1, 9}}, {2, []int{7, 3}}, {-1, []int{7, 3}}, {math.MaxInt, []int{7, 3}},
	} {
		p := pot(t, 10, 2)
		p.Pay(0, 1)
		p.Pay(1, 3)
		for range 2 {
			if got := p.Rest(x.seat); !slices.Equal(got, x.want) {
				t.Errorf("Rest(%d): %v, want %v", x.seat, got, x.want)
			}
			has(t, p, 0, x.want...)
		}
	}
}

// TestP34Clone: a clone is the same, shares nothing.
func TestP34Clone(t *testing.T) {
	p := pot(t, 10, 2)
	p.Pay(1, 3)
	c := p.Clone()
	if c == p || !c.Same(p) || !p.Same(c) {
		t.Error("a clone is another pot that is the same")
	}
	c.Pay(0, 2)
	has(t, p, 7, 0, 3)
	has(t, c, 5, 2, 3)
	p.Rest(1)
	has(t, p, 0, 0, 10)
	has(t, c, 5, 2, 3)
}

// TestP34Same: what is left, and what each of the seats has.
func TestP34Same(t *testing.T) {
	p := pot(t, 10, 2)
	for i, o := range []*coin.Pot{pot(t, 11, 2), pot(t, 10, 3), pot(t, 10, 1), nil} {
		if p.Same(o) || o.Same(p) {
			t.Errorf("%d: they aren't the same", i)
		}
	}
	a, b := pot(t, 10, 2), pot(t, 10, 2)
	if !a.Same(a) || !a.Same(b) {
		t.Error("they are the same")
	}
	a.Pay(0, 2)
	b.Pay(1, 2)
	if a.Same(b) {
		t.Error("unlike seats have it")
	}
	a.Pay(1, 2)
	b.Pay(0, 2)
	if !a.Same(b) {
		t.Error("they came to the same")
	}
	less := pot(t, 7, 2) // as much is left as of 10 of which 3 are paid
	more := pot(t, 10, 2)
	more.Pay(1, 3)
	if less.Same(more) {
		t.Error("as much is left, but the seats have other amounts")
	}
}

// TestP34NewMemory: answers are new memory.
func TestP34NewMemory(t *testing.T) {
	p := pot(t, 10, 2)
	p.Pay(0, 4)
	first := p.Pays()
	_ = append(first, 5)
	first[0] = 99
	has(t, p, 6, 4, 0)
	rest := p.Rest(1)
	rest[1] = 99
	has(t, p, 0, 4, 6)
	weights := []int{1, 1}
	parts, _ := coin.Split(4, weights)
	parts[0] = 99
	if again, _ := coin.Split(4, weights); !slices.Equal(again, []int{2, 2}) || weights[0] != 1 {
		t.Error("Split's parts are shared")
	}
}

// TestP34Nil: a nil pot.
func TestP34Nil(t *testing.T) {
	var p *coin.Pot
	if p.Pay(0, 5) != 0 || len(p.Rest(0)) != 0 || p.Left() != 0 || len(p.Pays()) != 0 || p.Clone() != nil {
		t.Error("a nil pot has something")
	}
	if !p.Same(nil) || p.Same(pot(t, 0, 1)) || pot(t, 0, 1).Same(nil) {
		t.Error("a nil pot is the same as a nil one alone")
	}
}

// TestP35Pot: whatever is asked, what is left and what seats have is the amount.
func TestP35Pot(t *testing.T) {
	asks := []int{3, -2, 0, 17, math.MinInt, 40, 1, math.MaxInt, 5}
	for seats := 1; seats <= coin.MostSeats; seats++ {
		for _, amount := range []int{0, 1, 50, 1000, coin.Most} {
			p := pot(t, amount, seats)
			for i, ask := range asks {
				left := p.Left()
				paid := p.Pay(i*5-7, ask)
				sum, err := coin.Sum(p.Pays())
				if err != api.OK || paid < 0 || left-paid != p.Left() || sum+p.Left() != amount || len(p.Pays()) != seats {
					t.Fatalf("%d for %d seats: %d left, seats have %v", amount, seats, p.Left(), p.Pays())
				}
			}
			if sum, err := coin.Sum(p.Rest(seats / 2)); err != api.OK || sum != amount || p.Left() != 0 {
				t.Errorf("%d for %d seats: behind Rest they have %d", amount, seats, sum)
			}
		}
	}
}
