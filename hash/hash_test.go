package hash_test

import (
	"bytes"
	"encoding/hex"
	"math"
	"testing"

	"baize/hash"
)

const (
	small = 261
	mixed = 0x0123456789abcdef
)

// run gives so many bytes, of which neighbours are unlike.
func run(n int) []byte {
	b := make([]byte, n)
	for i := range b {
		b[i] = byte(i * 37)
	}
	return b
}

// digests gives those of numbers.
func digests(l ...uint64) []hash.Digest {
	var out []hash.Digest
	for _, n := range l {
		out = append(out, hash.FromNum(n))
	}
	return out
}

// same holds a digest against the number that it has to have.
func same(t *testing.T, what string, got hash.Digest, want uint64) {
	t.Helper()
	if got != hash.FromNum(want) {
		t.Errorf("%s: %#x, want %#x", what, hash.Num(got), want)
	}
}

// The numbers that are wanted here were reckoned by another program, from the chapter's words.

// TestP21Of: digests of bytes: none, some, whole eights, and more.
func TestP21Of(t *testing.T) {
	for _, x := range []struct {
		size int
		want uint64
	}{
		{0, 0x786a00ced0e6eaa7}, {1, 0x3772ffa09ffc347d}, {2, 0x841d24b07d1324dc}, {7, 0x068001d37a03c6c3}, {8, 0x2744881114411aac},
		{9, 0x81a35f03e15acc8a}, {15, 0xcc05ff4755bfe196}, {16, 0x9662e39283eead14}, {17, 0x0a0fccf9124ac385}, {100, 0x3ad0d988d3112616},
	} {
		same(t, "Of", hash.Of(run(x.size)), x.want)
	}
	if hash.Of(nil) != hash.Of([]byte{}) {
		t.Error("nil and empty bytes are one")
	}
}

// TestP21Digests: digests of digests.
func TestP21Digests(t *testing.T) {
	for _, x := range []struct{ n, want uint64 }{
		{0, 0x288ddefae8439379}, {small, 0xd7407272dd633500}, {mixed, 0xa20993f276f302c5}, {math.MaxUint64, 0xd9ff9fa3f7a933cb},
	} {
		same(t, "One", hash.One(hash.FromNum(x.n)), x.want)
	}
	for _, x := range []struct{ a, b, want uint64 }{
		{0, 0, 0x56bd6380925674d4}, {small, mixed, 0xb2403474e7ed5041}, {mixed, small, 0x8b7d8ab60a0c7125}, {math.MaxUint64, 0, 0x70fad052b4cad196},
	} {
		same(t, "Two", hash.Two(hash.FromNum(x.a), hash.FromNum(x.b)), x.want)
	}
	for _, x := range []struct {
		n    uint64
		text string
		want uint64
	}{
		{0, "", 0x022391a87b9dca9b}, {small, "leaf", 0x1ac8017cb47e8a1e}, {mixed, "root3", 0xef5a00b55ee9addd}, {math.MaxUint64, "12345678", 0x48093d9964c26835}, {small, "\u00e9\x00", 0x9c1268d6c4625e4f},
	} {
		same(t, "Word", hash.Word(hash.FromNum(x.n), x.text), x.want)
	}
	for _, x := range []struct {
		l    []uint64
		want uint64
	}{
		{nil, 0x51e886efd6b213e4}, {[]uint64{0}, 0x22253385e815ef02}, {[]uint64{small}, 0x2ed98b5212316b20}, {[]uint64{small, mixed}, 0x65d61b8b19fc7f7a},
		{[]uint64{mixed, small}, 0x89e22f9447453d37}, {[]uint64{0, 0}, 0xe8aeca1a706c19ad},
	} {
		same(t, "Many", hash.Many(digests(x.l...)), x.want)
	}
	if hash.Many(nil) != hash.Many([]hash.Digest{}) {
		t.Error("nil and no digests are one")
	}
}

// TestP22Num: a digest's number, there and back; and the chapter's example.
func TestP22Num(t *testing.T) {
	if n := hash.Num(hash.Digest{5, 1}); n != 261 {
		t.Errorf("the number of 5 1 0 0 0 0 0 0 is %d", n)
	}
	if d := hash.FromNum(mixed); d != (hash.Digest{0xef, 0xcd, 0xab, 0x89, 0x67, 0x45, 0x23, 0x01}) {
		t.Errorf("the lowest byte isn't first: %x", d)
	}
	for shift := range 64 {
		for _, n := range []uint64{1 << shift, 1<<shift - 1, math.MaxUint64 >> shift} {
			if got := hash.Num(hash.FromNum(n)); got != n {
				t.Errorf("%#x comes back as %#x", n, got)
			}
		}
	}
}

// TestP22Chain: One, so often; and the counts at which there is no chain.
func TestP22Chain(t *testing.T) {
	d := hash.FromNum(small)
	for _, x := range []struct {
		n    int
		want uint64
	}{
		{1, 0xd7407272dd633500}, {2, 0xc1f16d1906cb71d4}, {3, 0x1dbb0a3c25d9e522}, {15, 0x4c7dfd1f158f8c51}, {1 << 20, 0xf5febbc2c5c8d2fa},
		{0, small}, {-1, small}, {1<<20 + 1, small}, {math.MinInt, small}, {math.MaxInt, small},
	} {
		same(t, "Chain", hash.Chain(d, x.n), x.want)
	}
	if hash.Chain(d, 2) != hash.One(hash.One(d)) {
		t.Error("the chapter's example")
	}
}

// TestP23: as many bytes as are asked for, the first ones always the same.
func TestP23(t *testing.T) {
	want, err := hex.DecodeString("591f0075d4a0d902f4d4258e3b6cda32ad6e2bc31015e2ba71857c")
	if err != nil {
		t.Fatal(err)
	}
	d := hash.FromNum(mixed)
	for n := range len(want) + 1 {
		if got := hash.Stream(d, n); !bytes.Equal(got, want[:n]) {
			t.Errorf("%d: %x", n, got)
		}
	}
	for _, n := range []int{0, -1, math.MinInt, 1<<20 + 1, math.MaxInt} {
		if got := hash.Stream(d, n); len(got) != 0 {
			t.Errorf("Stream(d, %d) gives %d bytes", n, len(got))
		}
	}
	if long := hash.Stream(d, 1<<20); len(long) != 1<<20 || !bytes.Equal(long[:27], want) {
		t.Errorf("the longest one has %d bytes", len(long))
	}
	if got := hash.Stream(hash.Digest{}, 8); hex.EncodeToString(got) != "5dca2685f2d688ad" {
		t.Errorf("of the zero digest: %x", got)
	}
}

// TestP24Sum: however the bytes come, the sum is Of of all; and more may be written then.
func TestP24Sum(t *testing.T) {
	all := run(60)
	for step := 1; step < 20; step++ {
		w := hash.NewWriter()
		for at := 0; at < len(all); at += step {
			if w.Sum() != hash.Of(all[:at]) || w.Sum() != hash.Of(all[:at]) {
				t.Errorf("steps of %d: behind %d bytes", step, at)
			}
			w.Write(nil)
			w.Write(all[at:min(at+step, len(all))])
		}
		if w.Sum() != hash.Of(all) {
			t.Errorf("steps of %d: at the end", step)
		}
	}
}

// TestP24Clone: a clone has the same bytes, and goes its own way.
func TestP24Clone(t *testing.T) {
	for size := range 20 {
		w := hash.NewWriter()
		w.Write(run(size))
		c := w.Clone()
		if c == w || !c.Same(w) || c.Sum() != w.Sum() {
			t.Fatalf("%d: a clone is another writer with the same bytes", size)
		}
		w.Write([]byte("one"))
		c.Write([]byte("two"))
		if w.Sum() != hash.Of(append(run(size), "one"...)) || c.Sum() != hash.Of(append(run(size), "two"...)) || c.Same(w) {
			t.Errorf("%d: clone and writer share bytes", size)
		}
	}
}

// TestP24Same: as many bytes, and the same ones, however they came.
func TestP24Same(t *testing.T) {
	writer := func(pieces ...string) *hash.Writer {
		w := hash.NewWriter()
		for _, p := range pieces {
			w.Write([]byte(p))
		}
		return w
	}
	for _, x := range []struct {
		a, b *hash.Writer
		want bool
	}{
		{writer(), writer(), true}, {writer(), writer("", ""), true}, {writer("ab", "c"), writer("a", "bc"), true}, {writer("1234567", "89"), writer("123456789"), true},
		{writer(), writer("\x00"), false}, {writer("ab"), writer("ab\x01"), false}, {writer("ab"), writer("ab\x00"), false}, {writer("ab"), writer("ba"), false},
		{writer("12345678"), writer("12345678\x01"), false}, {writer("12345678a"), writer("12345679a"), false}, {writer("ab"), writer("abab"), false},
	} {
		if x.a.Same(x.b) != x.want || x.b.Same(x.a) != x.want || !x.a.Same(x.a) {
			t.Errorf("%x and %x", x.a.Sum(), x.b.Sum())
		}
	}
}

// TestP24SameDigest: two writers whose digests are alike, though their bytes aren't.
func TestP24SameDigest(t *testing.T) {
	a, b := hash.NewWriter(), hash.NewWriter()
	for w, n := range map[*hash.Writer]uint64{a: 0x0470be611c53ebe4, b: 0x9fb4cf76366d91d3} {
		d := hash.FromNum(n)
		w.Write(d[:])
	}
	if a.Sum() != b.Sum() {
		t.Fatalf("they are there for their digests: %x, %x", a.Sum(), b.Sum())
	}
	if a.Same(b) || b.Same(a) {
		t.Error("the bytes have to be the same ones, not their digests alone")
	}
}

// TestP24Nil: a nil writer.
func TestP24Nil(t *testing.T) {
	var w *hash.Writer
	w.Write([]byte("abc"))
	if w.Sum() != hash.Of(nil) || w.Clone() != nil {
		t.Error("a nil writer has no bytes, and no clone")
	}
	if !w.Same(nil) || w.Same(hash.NewWriter()) || hash.NewWriter().Same(nil) {
		t.Error("a nil writer is the same as a nil one alone")
	}
}

// TestP25: what is handed in isn't changed and not kept; answers are new memory.
func TestP25(t *testing.T) {
	room := run(40)
	b := room[:21]
	w := hash.NewWriter()
	w.Write(b)
	hash.Of(b)
	if !bytes.Equal(room, run(40)) {
		t.Error("bytes were changed")
	}
	clear(room)
	w.Write([]byte("more"))
	if w.Sum() != hash.Of(append(run(21), "more"...)) || !bytes.Equal(room, make([]byte, 40)) {
		t.Error("a writer keeps what it was given")
	}
	l := digests(1, 2, 3)
	hash.Many(l)
	if l[0] != hash.FromNum(1) || l[1] != hash.FromNum(2) || l[2] != hash.FromNum(3) {
		t.Error("digests were changed")
	}
	first := hash.Stream(l[0], 9)
	keep := bytes.Clone(first)
	clear(first)
	if !bytes.Equal(hash.Stream(l[0], 9), keep) {
		t.Error("a stream is kept")
	}
}
