package chance_test

import (
	"math"
	"testing"

	"baize/api"
	"baize/chance"
	"baize/hash"
)

// zero is what stands beside an error.
var zero hash.Digest

// secret is some chain's, told by a number.
func secret(n uint64) hash.Digest { return hash.Word(hash.FromNum(n), "secret") }

// made gives a chain that has to be.
func made(t *testing.T, d hash.Digest, reveals int) *chance.Chain {
	t.Helper()
	c, err := chance.New(d, reveals)
	if err != api.OK || c == nil {
		t.Fatalf("of %d: %s", reveals, err.Word())
	}
	return c
}

// shown has a chain show so many of its reveals.
func shown(t *testing.T, c *chance.Chain, times int) *chance.Chain {
	t.Helper()
	for range times {
		if _, err := c.Show(); err != api.OK {
			t.Fatal(err.Word())
		}
	}
	return c
}

// stands looks at all that a chain tells: its first place, the last one, and how many reveals are left.
func stands(t *testing.T, c *chance.Chain, d hash.Digest, reveals, left int) {
	t.Helper()
	if c.Anchor() != hash.Chain(d, reveals) || c.Tip() != hash.Chain(d, left) || c.Left() != left {
		t.Errorf("of %d reveals, %d of them left: anchor %x, tip %x, left %d", reveals, left, c.Anchor(), c.Tip(), c.Left())
	}
}

// TestP181New: how many reveals a chain may have.
func TestP181New(t *testing.T) {
	for _, reveals := range []int{math.MinInt, -1, 0, 4097, 1 << 20, math.MaxInt} {
		if c, err := chance.New(secret(1), reveals); c != nil || err != api.ErrRange {
			t.Errorf("of %d: %v, %s", reveals, c, err.Word())
		}
	}
	if chance.MostReveals != 4096 {
		t.Error(chance.MostReveals)
	}
	for _, reveals := range []int{1, 2, 3, 64, 4095, 4096} {
		for _, d := range []hash.Digest{zero, secret(1), hash.FromNum(math.MaxUint64)} {
			stands(t, made(t, d, reveals), d, reveals, reveals)
		}
	}
}

// TestP181Show: reveal by reveal, down to the secret; then nothing is left, and nothing changes any more.
func TestP181Show(t *testing.T) {
	for _, reveals := range []int{1, 2, 7, 300} {
		d := secret(uint64(reveals))
		c := made(t, d, reveals)
		for left := reveals - 1; left >= 0; left-- {
			ahead := c.Tip()
			reveal, err := c.Show()
			if err != api.OK || reveal != hash.Chain(d, left) || !chance.Fulfils(ahead, reveal) {
				t.Errorf("of %d reveals, %d left: %x, %s", reveals, left, reveal, err.Word())
			}
			stands(t, c, d, reveals, left)
		}
		if c.Tip() != d {
			t.Error("the last reveal isn't the secret")
		}
		for range 2 {
			if reveal, err := c.Show(); err != api.ErrSpent || reveal != zero {
				t.Errorf("of %d reveals, none left: %x, %s", reveals, reveal, err.Word())
			}
			stands(t, c, d, reveals, 0)
		}
	}
	c := shown(t, made(t, secret(9), 4096), 4096)
	stands(t, c, secret(9), 4096, 0)
}

// TestP181Answer: each place but the first one has an answer, whatever was shown, and nothing changes by it.
func TestP181Answer(t *testing.T) {
	for _, reveals := range []int{1, 2, 7, 40} {
		d := secret(uint64(reveals))
		for _, times := range []int{0, 1, reveals / 2, reveals} {
			c := shown(t, made(t, d, reveals), times)
			for k := range reveals {
				if reveal, err := c.Answer(hash.Chain(d, k+1)); err != api.OK || reveal != hash.Chain(d, k) {
					t.Errorf("of %d reveals, %d shown, the place %d: %x, %s", reveals, times, k+1, reveal, err.Word())
				}
			}
			for _, tip := range []hash.Digest{d, hash.Chain(d, reveals+1), zero, secret(1000), hash.Two(d, d)} {
				if reveal, err := c.Answer(tip); err != api.ErrNone || reveal != zero {
					t.Errorf("of %d reveals, %d shown, %x: %x, %s", reveals, times, tip, reveal, err.Word())
				}
			}
			stands(t, c, d, reveals, reveals-times)
		}
	}
	long := made(t, secret(3), 4096)
	for _, k := range []int{1, 2, 4095, 4096} {
		if reveal, err := long.Answer(hash.Chain(secret(3), k)); err != api.OK || !chance.Fulfils(hash.Chain(secret(3), k), reveal) {
			t.Errorf("the place %d: %x, %s", k, reveal, err.Word())
		}
	}
}

// TestP181Zero: the zero digest is a tip like others.
func TestP181Zero(t *testing.T) {
	c := made(t, zero, 3)
	if reveal, err := c.Answer(hash.One(zero)); err != api.OK || reveal != zero {
		t.Errorf("%x, %s", reveal, err.Word())
	}
	if _, err := c.Answer(zero); err != api.ErrNone {
		t.Error(err.Word())
	}
	if reveal, err := shown(t, c, 2).Show(); err != api.OK || reveal != zero {
		t.Errorf("%x, %s", reveal, err.Word())
	}
}

// TestP184Clone: a clone is the same, and goes on for itself.
func TestP184Clone(t *testing.T) {
	for times := range 6 {
		c := shown(t, made(t, secret(4), 6), times)
		other := c.Clone()
		if other == c || !c.Same(other) || !other.Same(c) {
			t.Errorf("%d shown: it isn't the same, or no other one", times)
		}
		stands(t, other, secret(4), 6, 6-times)
		shown(t, other, 1)
		stands(t, c, secret(4), 6, 6-times)
		stands(t, other, secret(4), 6, 5-times)
		if c.Same(other) || other.Same(c) {
			t.Errorf("%d shown, and one more: the same", times)
		}
		shown(t, c, 1)
		if !c.Same(other) {
			t.Errorf("%d shown of both: not the same", times+1)
		}
	}
}

// TestP184Same: the secret, the reveals, and how many are left, all three.
func TestP184Same(t *testing.T) {
	d := secret(5)
	longer := shown(t, made(t, d, 6), 1)
	for _, x := range []struct {
		a, b *chance.Chain
		want bool
	}{
		{made(t, d, 5), made(t, d, 5), true},
		{made(t, d, 5), made(t, secret(6), 5), false},
		{made(t, d, 5), made(t, d, 6), false},
		{made(t, d, 5), longer, false},                  // the same tip, and as many left
		{made(t, d, 5), made(t, hash.One(d), 4), false}, // the same tip
		{made(t, d, 5), shown(t, made(t, d, 5), 1), false},
		{shown(t, made(t, d, 5), 5), shown(t, made(t, d, 5), 5), true},
		{made(t, d, 5), nil, false}, {nil, nil, true}, {nil, made(t, zero, 1), false},
	} {
		if x.a.Same(x.b) != x.want || x.b.Same(x.a) != x.want {
			t.Errorf("%+v and %+v: not %t", x.a, x.b, x.want)
		}
	}
	c := made(t, d, 5)
	c.Answer(c.Tip())
	if !c.Same(made(t, d, 5)) || !c.Same(c) {
		t.Error("an answer changes a chain")
	}
}

// TestP184Nil: what a nil chain answers.
func TestP184Nil(t *testing.T) {
	var c *chance.Chain
	if reveal, err := c.Show(); err != api.ErrArg || reveal != zero {
		t.Errorf("%x, %s", reveal, err.Word())
	}
	for _, tip := range []hash.Digest{zero, hash.One(zero)} {
		if reveal, err := c.Answer(tip); err != api.ErrArg || reveal != zero {
			t.Errorf("%x, %s", reveal, err.Word())
		}
	}
	if c.Anchor() != zero || c.Tip() != zero || c.Left() != 0 || c.Clone() != nil {
		t.Error("a nil chain has something")
	}
}
