package keys_test

import (
	"bytes"
	"slices"
	"testing"

	"baize/hash"
	"baize/keys"
	"baize/octet"
	"baize/once"
	"baize/tree"
)

// run gives so many bytes, of which neighbours are unlike.
func run(n int) []byte {
	b := make([]byte, n)
	for i := range b {
		b[i] = byte(i * 37)
	}
	return b
}

// TestP64Verify: a ring's signatures verify, of their message and by what it is known by alone.
func TestP64Verify(t *testing.T) {
	for _, height := range []int{0, 1, 3, 8} {
		r, other, l := of(t, small, height), of(t, mixed, height), messages(1<<height)
		for i, msg := range l {
			sig := sign(t, r, msg)
			if got, ok := keys.Index(sig); got != i || !ok {
				t.Errorf("height %d: Index of key %d: %d, %v", height, i, got, ok)
			}
			if !keys.Verify(r.Public(), msg, sig) {
				t.Errorf("height %d: key %d's signature doesn't verify", height, i)
			}
			if keys.Verify(other.Public(), msg, sig) || keys.Verify(hash.Digest{}, msg, sig) || keys.Verify(r.Public(), hash.One(msg), sig) {
				t.Errorf("height %d: key %d's signature verifies with another key or message", height, i)
			}
		}
	}
}

// TestP64Changed: no signature verifies of which a byte, or the length, is another one.
func TestP64Changed(t *testing.T) {
	l := messages(131)
	r := of(t, small, 8, l...)
	for _, i := range []int{0, 5, 130} {
		sig, public := sign(t, r, l[i]), r.Public()
		for at := range sig {
			for bit := range 8 {
				wrong := bytes.Clone(sig)
				wrong[at] ^= 1 << bit
				if keys.Verify(public, l[i], wrong) {
					t.Errorf("key %d: verified with byte %d changed by bit %d", i, at, bit)
				}
			}
		}
		for n := range sig {
			if keys.Verify(public, l[i], sig[:n]) || keys.Verify(public, l[i], sig[n+1:]) {
				t.Errorf("key %d: %d bytes of it, or what is behind them, verify", i, n)
			}
		}
		for _, more := range []int{1, 7, 8, 16} {
			if keys.Verify(public, l[i], append(bytes.Clone(sig), make([]byte, more)...)) {
				t.Errorf("key %d: verified with %d bytes more", i, more)
			}
		}
	}
}

// TestP64Form: the numbers, and the lengths, that a signature may have.
func TestP64Form(t *testing.T) {
	for height := range 11 {
		for _, i := range []uint64{0, 1, 2, 3, 7, 8, 127, 128, 129, 254, 255, 256, 300, 511, 512, 1023, 1 << 40} {
			b := append(octet.PutNum(nil, i), run(144+8*height)...)
			is := height <= 8 && i < 1<<height
			want := 0
			if is {
				want = int(i)
			}
			if got, ok := keys.Index(b); got != want || ok != is {
				t.Errorf("%d digests, number %d: %d, %v", height, i, got, ok)
			}
			for _, more := range []int{1, 4, 7} {
				if got, ok := keys.Index(append(bytes.Clone(b), run(more)...)); got != 0 || ok {
					t.Errorf("%d digests and %d bytes, number %d: %d, %v", height, more, i, got, ok)
				}
			}
		}
	}
}

// TestP64NoForm: what has no signature's form has no number, and never verifies.
func TestP64NoForm(t *testing.T) {
	for name, b := range map[string][]byte{
		"nothing": nil, "a number alone": {0}, "143 bytes": append([]byte{0}, run(143)...), "136 bytes": append([]byte{0}, run(136)...), "no bytes behind a long number": {0x80, 1},
		"a number of two bytes where one will do": append([]byte{0x81, 0}, run(160)...), "a zero of two bytes": append([]byte{0x80, 0}, run(144)...),
		"a number without an end":  bytes.Repeat([]byte{0x80}, 200),
		"a number of ten bytes":    append(bytes.Repeat([]byte{0xff}, 10), run(144)...),
		"one digest, the number 2": append([]byte{2}, run(152)...), "no digest, the number 1": append([]byte{1}, run(144)...),
		"256 of 256":    append(octet.PutNum(nil, 256), run(208)...),
		"nine digests":  append([]byte{0}, run(216)...),
		"a great deal":  append([]byte{0}, run(1<<16)...),
		"a wrong count": append([]byte{144, 1}, run(144)...),
	} {
		if got, ok := keys.Index(b); got != 0 || ok {
			t.Errorf("%s: Index %d, %v", name, got, ok)
		}
		for _, public := range []hash.Digest{{}, hash.FromNum(small)} {
			if keys.Verify(public, hash.Digest{}, b) {
				t.Errorf("%s: Verify by %x", name, public)
			}
		}
	}
}

// TestP64Told: bytes that no ring made verify too, if they come to what a ring is known by.
func TestP64Told(t *testing.T) {
	msg, shown := hash.FromNum(mixed), run(144)
	key, _ := once.Told(msg, shown)
	for height := range 9 {
		path := messages(height)
		for _, i := range []int{0, 1, 1 << height / 2, 1<<height - 1} {
			sig, root := join(uint64(i), shown, path), tree.With(i, key, path)
			is := i < 1<<height
			if keys.Verify(root, msg, sig) != is {
				t.Errorf("%d digests, number %d: not %v", height, i, is)
			}
			if keys.Verify(root, hash.One(msg), sig) {
				t.Errorf("%d digests, number %d: another message", height, i)
			}
			if height > 1 {
				slices.Reverse(path)
				if keys.Verify(root, msg, join(uint64(i), shown, path)) {
					t.Errorf("%d digests, number %d: the path the other way round", height, i)
				}
				slices.Reverse(path)
			}
		}
	}
}

// TestP64Kept: what is handed in is neither kept nor changed.
func TestP64Kept(t *testing.T) {
	r, msg := of(t, small, 3), hash.FromNum(mixed)
	sig := sign(t, r, msg)
	keep := bytes.Clone(sig)
	if !keys.Verify(r.Public(), msg, sig) || !bytes.Equal(sig, keep) {
		t.Error("Verify changes a signature")
	}
	if keys.Index(sig); !bytes.Equal(sig, keep) {
		t.Error("Index changes a signature")
	}
	clear(sig)
	if !bytes.Equal(sign(t, r, msg), keep) {
		t.Error("a ring keeps the signature that it handed out")
	}
}
