package keys_test

import (
	"bytes"
	"encoding/hex"
	"math"
	"slices"
	"testing"

	"baize/api"
	"baize/hash"
	"baize/keys"
	"baize/octet"
)

// saved gives a ring's bytes of its parts.
func saved(secret []byte, height, used uint64, ledger ...[]byte) []byte {
	b := octet.PutNum(octet.PutNum(octet.PutBytes(nil, secret), height), used)
	for _, msg := range ledger {
		b = octet.PutBytes(b, msg)
	}
	return b
}

// TestP65Known: rings' bytes.
func TestP65Known(t *testing.T) {
	for _, x := range []struct {
		ring *keys.Ring
		want string
	}{
		{of(t, small, 3, hash.FromNum(mixed), hash.Digest{}, hash.FromNum(math.MaxUint64)), "080501000000000000030308efcdab896745230108000000000000000008ffffffffffffffff"},
		{of(t, mixed, 0), "08efcdab89674523010000"},
	} {
		if got := hex.EncodeToString(x.ring.Save()); got != x.want {
			t.Errorf("Save: %s, want %s", got, x.want)
		}
	}
}

// TestP65Again: what is saved is opened as it was, and goes on as it would have.
func TestP65Again(t *testing.T) {
	for _, height := range []int{0, 1, 2, 5, 8} {
		l := messages(1<<height + 1)
		for _, used := range []int{0, 1, 1 << height / 2, 1<<height - 1, 1 << height} {
			r := of(t, mixed, height, l[:used]...)
			o, err := keys.Open(r.Save())
			if o == nil || err != api.OK {
				t.Fatalf("height %d, %d used: %s", height, used, err.Word())
			}
			if !o.Same(r) || o.Public() != r.Public() || !bytes.Equal(o.Save(), r.Save()) {
				t.Errorf("height %d, %d used: it isn't the same", height, used)
			}
			holds(t, "opened", o, height, l[:used])
			a, first := r.Sign(l[used])
			b, second := o.Sign(l[used])
			if !bytes.Equal(a, b) || first != second || !o.Same(r) {
				t.Errorf("height %d, %d used: it doesn't go on alike: %s, %s", height, used, first.Word(), second.Word())
			}
		}
	}
}

// TestP65Errors: each error, and which one is first.
func TestP65Errors(t *testing.T) {
	s, a, b, c := run(8), []byte("message1"), []byte("message2"), []byte("message3")
	long := []byte{0xff, 0xff, 0xff, 0xff, 0xff, 0xff, 0xff, 0xff, 0xff, 2}
	for _, x := range []struct {
		name  string
		bytes []byte
		want  api.Errno
	}{
		{"nothing", nil, api.ErrShort},
		{"a secret of 9 bytes", saved(run(9), 0, 0), api.ErrRange},
		{"a secret of 7 bytes", saved(run(7), 0, 0), api.ErrForm},
		{"a secret of no bytes", saved(nil, 0, 0), api.ErrForm},
		{"a secret of 7 bytes, and nothing behind it", octet.PutBytes(nil, run(7)), api.ErrForm},
		{"a secret of which bytes lack", octet.PutBytes(nil, s)[:6], api.ErrShort},
		{"a secret's count in two bytes", append([]byte{0x88, 0}, s...), api.ErrForm},
		{"a secret's count that is too great", long, api.ErrForm},
		{"no height", octet.PutBytes(nil, s), api.ErrShort},
		{"a height of 9", saved(s, 9, 0), api.ErrRange},
		{"a height of 2^63", saved(s, 1<<63, 0), api.ErrRange},
		{"a height in two bytes", append(octet.PutBytes(nil, s), 0x81, 0, 0), api.ErrForm},
		{"no count", saved(s, 1, 0)[:10], api.ErrShort},
		{"one of no height more than there are", saved(s, 0, 2, a, b), api.ErrRange},
		{"three of two keys", saved(s, 1, 3, a, b, c), api.ErrRange},
		{"257 of 256 keys", saved(s, 8, 257), api.ErrRange},
		{"256 of 256 keys, none there", saved(s, 8, 256), api.ErrShort},
		{"a count in two bytes", append(octet.PutBytes(nil, s), 1, 0x80, 0), api.ErrForm},
		{"a message that isn't there", saved(s, 1, 1), api.ErrShort},
		{"a second message that isn't there", saved(s, 1, 2, a), api.ErrShort},
		{"a message of 9 bytes", saved(s, 1, 1, run(9)), api.ErrRange},
		{"a message of 7 bytes", saved(s, 1, 1, run(7)), api.ErrForm},
		{"a message of no bytes", saved(s, 1, 1, nil), api.ErrForm},
		{"a message of 7 bytes, then none", saved(s, 1, 2, run(7)), api.ErrForm},
		{"a message of which bytes lack", saved(s, 1, 1, a)[:15], api.ErrShort},
		{"a message twice", saved(s, 1, 2, a, a), api.ErrTwice},
		{"a message twice, and one between", saved(s, 2, 3, a, b, a), api.ErrTwice},
		{"a message twice, then none", saved(s, 2, 3, a, a), api.ErrTwice},
		{"a message twice, and bytes behind it", append(saved(s, 1, 2, a, a), 0), api.ErrTwice},
		{"a message of 7 bytes behind one that stands twice", saved(s, 2, 3, a, a, run(7)), api.ErrTwice},
		{"one that stands twice behind a message of 7 bytes", saved(s, 2, 3, a, run(7), a), api.ErrForm},
		{"a message more", saved(s, 1, 1, a, b), api.ErrLong},
		{"a byte more", append(saved(s, 0, 0), 0), api.ErrLong},
		{"a secret of 7 bytes, and a height of 9", saved(run(7), 9, 0), api.ErrForm},
		{"a height of 9, and too many", saved(s, 9, 1<<20, a, a), api.ErrRange},
	} {
		if r, err := keys.Open(x.bytes); r != nil || err != x.want {
			t.Errorf("%s: %v, %s", x.name, r != nil, err.Word())
		}
	}
	for name, b := range map[string][]byte{"no message": saved(s, 0, 0), "as many as there may be": saved(s, 1, 2, a, b), "all bytes 0": saved(make([]byte, 8), 0, 1, make([]byte, 8))} {
		if r, err := keys.Open(b); r == nil || err != api.OK {
			t.Errorf("%s: %s", name, err.Word())
		}
	}
}

// TestP65OneWay: of bytes that lack their end there is none; what is opened has just the bytes that were read.
func TestP65OneWay(t *testing.T) {
	b := of(t, mixed, 2, messages(3)...).Save()
	for n := range b {
		if r, err := keys.Open(b[:n]); r != nil || err != api.ErrShort {
			t.Errorf("%d bytes of it: %v, %s", n, r != nil, err.Word())
		}
	}
	opened := 0
	for at := range b {
		for x := range 256 {
			other := bytes.Clone(b)
			other[at] = byte(x)
			r, err := keys.Open(other)
			if (r != nil) != (err == api.OK) {
				t.Fatalf("byte %d is %d: %v, %s", at, x, r != nil, err.Word())
			}
			if r == nil {
				continue
			}
			opened++
			if !bytes.Equal(r.Save(), other) {
				t.Errorf("byte %d is %d: opened, and saved as %x", at, x, r.Save())
			}
		}
	}
	if opened < 100 {
		t.Errorf("only %d were opened", opened)
	}
}

// TestP66Clone: one of its own that is the same.
func TestP66Clone(t *testing.T) {
	l := messages(5)
	r := of(t, small, 2, l[:2]...)
	c := r.Clone()
	if c == r || !c.Same(r) || !r.Same(c) || c.Public() != r.Public() || !bytes.Equal(c.Save(), r.Save()) {
		t.Fatal("a clone is another ring that is the same")
	}
	sign(t, r, l[2])
	sign(t, c, l[3])
	if r.Same(c) || c.Same(r) {
		t.Error("they signed unlike messages, and are the same")
	}
	holds(t, "the ring", r, 2, []hash.Digest{l[0], l[1], l[2]})
	holds(t, "the clone", c, 2, []hash.Digest{l[0], l[1], l[3]})
	if _, ok := r.Leaf(l[3]); ok {
		t.Error("the ring knows what the clone signed")
	}
	for i, x := range []*keys.Ring{r, c} {
		if msg := l[2+i]; !keys.Verify(x.Public(), msg, sign(t, x, msg)) {
			t.Errorf("ring %d's signature doesn't verify", i)
		}
	}
}

// TestP66Same: the secret, the height and the ledger, in its order.
func TestP66Same(t *testing.T) {
	l := messages(4)
	rings := func() []*keys.Ring {
		return []*keys.Ring{
			of(t, small, 2), of(t, mixed, 2), of(t, small, 1), of(t, small, 0), of(t, small, 2, l[0]), of(t, small, 2, l[1]), of(t, small, 1, l[0]),
			of(t, small, 2, l[0], l[1]), of(t, small, 2, l[1], l[0]), of(t, small, 2, l[:3]...), of(t, small, 2, l...), of(t, small, 2, l[0], hash.Digest{}), nil,
		}
	}
	first, second := rings(), rings()
	for i, a := range first {
		for j, b := range second {
			if a.Same(b) != (i == j) {
				t.Errorf("rings %d and %d: Same %v", i, j, a.Same(b))
			}
		}
	}
	r := of(t, small, 1)
	r.Reserve(l[0])
	if !r.Same(of(t, small, 1, l[0], l[0])) {
		t.Error("reserved or signed, once or twice: the ledger is the same")
	}
}

// TestP66Nil: a nil ring.
func TestP66Nil(t *testing.T) {
	var r *keys.Ring
	if i, err := r.Reserve(hash.FromNum(1)); i != 0 || err != api.ErrArg {
		t.Errorf("Reserve: %d, %s", i, err.Word())
	}
	if sig, err := r.Sign(hash.FromNum(1)); len(sig) != 0 || err != api.ErrArg {
		t.Errorf("Sign: %x, %s", sig, err.Word())
	}
	if i, ok := r.Leaf(hash.Digest{}); i != 0 || ok {
		t.Errorf("Leaf: %d, %v", i, ok)
	}
	if r.Public() != (hash.Digest{}) || r.Used() != 0 || r.Left() != 0 || len(r.Ledger()) != 0 || len(r.Save()) != 0 || r.Clone() != nil {
		t.Error("something isn't zero")
	}
	if !r.Same(nil) || r.Same(of(t, small, 0)) || of(t, small, 0).Same(nil) {
		t.Error("a nil ring is the same as a nil one alone")
	}
}

// TestP1NewMemory: what is handed in is neither kept nor changed; answers are new memory.
func TestP1NewMemory(t *testing.T) {
	l := messages(3)
	r := of(t, small, 2, l...)
	b := r.Save()
	keep := bytes.Clone(b)
	o, _ := keys.Open(b)
	if !bytes.Equal(b, keep) {
		t.Error("Open changes what it was given")
	}
	clear(b)
	clear(r.Ledger())
	if !bytes.Equal(r.Save(), keep) || !bytes.Equal(o.Save(), keep) || !slices.Equal(o.Ledger(), l) {
		t.Error("rings share what they were given, or answered")
	}
}

// TestP67T11: through clones, and rings that are saved behind each signature and opened again, no key signs two messages.
func TestP67T11(t *testing.T) {
	const height = 4
	l := messages(20)
	r := of(t, mixed, height)
	public := r.Public()
	signed := map[int]hash.Digest{}
	for step := range 60 {
		msg := l[step*7%20]
		sig, err := r.Sign(msg)
		if again, same := r.Clone().Sign(msg); !bytes.Equal(again, sig) || same != err {
			t.Fatalf("step %d: a clone signs otherwise", step)
		}
		if _, known := r.Leaf(msg); known != (err == api.OK) || err != api.OK && (err != api.ErrSpent || r.Left() != 0) {
			t.Fatalf("step %d: %s", step, err.Word())
		}
		if err == api.OK {
			i, ok := keys.Index(sig)
			if other, was := signed[i]; !ok || was && other != msg {
				t.Fatalf("step %d: key %d signs %x and %x", step, i, other, msg)
			}
			signed[i] = msg
			if !keys.Verify(public, msg, sig) {
				t.Fatalf("step %d: it doesn't verify", step)
			}
		}
		if r, err = keys.Open(r.Save()); err != api.OK || r.Public() != public {
			t.Fatalf("step %d: opened again: %s", step, err.Word())
		}
	}
	if len(signed) != 1<<height {
		t.Errorf("%d keys signed", len(signed))
	}
	for i, msg := range signed {
		for _, other := range l {
			if other != msg && keys.Verify(public, other, sign(t, r, msg)) {
				t.Errorf("key %d's signature of %x is one of %x", i, msg, other)
			}
		}
	}
}
