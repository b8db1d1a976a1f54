package once_test

import (
	"bytes"
	"encoding/hex"
	"math"
	"slices"
	"testing"

	"baize/hash"
	"baize/once"
)

const (
	small = 261
	mixed = 0x0123456789abcdef
)

// some are digests that are unlike: the edges, neighbours, and some between.
func some() []hash.Digest {
	l := []hash.Digest{{}, hash.FromNum(math.MaxUint64), hash.FromNum(mixed), hash.FromNum(small), hash.FromNum(1), hash.FromNum(2), hash.FromNum(16), hash.FromNum(1 << 60), hash.FromNum(0xf0e1d2c3b4a59687), hash.FromNum(0x1111111111111111)}
	for n := range uint64(20) {
		l = append(l, hash.Two(hash.FromNum(n), hash.FromNum(n)))
	}
	return l
}

// run gives so many bytes, of which neighbours are unlike.
func run(n int) []byte {
	b := make([]byte, n)
	for i := range b {
		b[i] = byte(i * 37)
	}
	return b
}

// at gives a chain's digest so many steps from its beginning.
func at(secret hash.Digest, chain, steps int) hash.Digest {
	d := hash.Two(secret, hash.FromNum(uint64(chain)))
	for range steps {
		d = hash.One(d)
	}
	return d
}

// TestExample: the chapter's.
func TestExample(t *testing.T) {
	if got := once.Reach(hash.Digest{}); got != [once.Chains]int{17: 15} {
		t.Errorf("of bytes 0: %v", got)
	}
	full := [once.Chains]int{15, 15, 15, 15, 15, 15, 15, 15, 15, 15, 15, 15, 15, 15, 15, 15, 0, 0}
	if got := once.Reach(hash.FromNum(math.MaxUint64)); got != full {
		t.Errorf("of bytes 255: %v", got)
	}
}

// TestP51Limits: how many chains, steps and bytes there are.
func TestP51Limits(t *testing.T) {
	if once.Chains != 18 || once.Length != 15 || once.Size != 144 {
		t.Error(once.Chains, once.Length, once.Size)
	}
}

// The digests that are wanted here were reckoned by another program, from the chapter's words.

// TestP51Public: keys of secrets.
func TestP51Public(t *testing.T) {
	for _, x := range []struct{ secret, want uint64 }{
		{0, 0xc93749c3c6716e49}, {small, 0x7c1b91ebe44d7a01}, {mixed, 0x12da6222f9277a1d}, {math.MaxUint64, 0xcf4ee691a61d1a8e},
	} {
		if got := once.Public(hash.FromNum(x.secret)); got != hash.FromNum(x.want) {
			t.Errorf("Public(%#x): %#x, want %#x", x.secret, hash.Num(got), x.want)
		}
	}
	for _, secret := range some() {
		var ends []hash.Digest
		for chain := range 18 {
			ends = append(ends, at(secret, chain, 15))
		}
		if once.Public(secret) != hash.Many(ends) {
			t.Errorf("Public(%x) isn't the digest of its ends", secret)
		}
	}
}

// TestP51Sign: signatures, known ones and chain by chain.
func TestP51Sign(t *testing.T) {
	for _, x := range []struct {
		secret, msg uint64
		want        string
	}{
		{small, mixed, "4afcde283ef8c743c9d1e1d47f0b0a4ce033a7ca6cdf9b34429ab560c828d75369c57987eccb42495e3ed22cdd201e586cbebbcc58e6226e1c16ff8d6901ee9cc647fff114adda6b1c1425d8f399b62c839760dac4d40c352d1978156c197ea4c58bfc6c2f6f5ae009a4e1b688a650829d00d4f5d14385f317f7b847874dd98c4897aadb0c7b9d037cbceda45369f13a"},
		{mixed, 0, "ff009a99485d4ca6cba1abc15761a762801d6b42ee48bc34ee210129e29cf0028043b4301877ad0bcd2b12d356d8f479c07cd5dfd4e500cc08a80687c36b47cdbd9a8f0a204138cb28eee570b76df55b6583658e7bc24cd8dee0c4d131c7c72ae593590c05c67844493b5233b8670f472e9344770b23f61ede38adbc9555ffd7569a35b31b3c9597cedcf14b471a438c"},
		{mixed, math.MaxUint64, "63bd0d1a7c50818528b0d0dcaaacb04931c2c8e17c1c6d4b91282dcbe6f27dee8786a7c93fe6fd2454434e5786057db11c365d075cf407c3eba5e971a8590b50230ab5d0bac9347b658b407905940850a5ac8b16a63dadf867be634aa9462d59e9d685022ea7ac241aa6ca06b6902ecef08078a9cc7bff3bebfae7d21bdbcdd4569a35b31b3c9597b309f73bc6a09a89"},
	} {
		if got := hex.EncodeToString(once.Sign(hash.FromNum(x.secret), hash.FromNum(x.msg))); got != x.want {
			t.Errorf("Sign(%#x, %#x): %s", x.secret, x.msg, got)
		}
	}
	secret := hash.FromNum(77)
	for _, msg := range some() {
		var want []byte
		for chain, digit := range once.Reach(msg) {
			d := at(secret, chain, digit)
			want = append(want, d[:]...)
		}
		if got := once.Sign(secret, msg); len(got) != 144 || !bytes.Equal(got, want) {
			t.Errorf("Sign of %x: %x", msg, got)
		}
	}
}

// TestP51Reach: digits, known ones and each by its place.
func TestP51Reach(t *testing.T) {
	for _, x := range []struct {
		msg  uint64
		want [once.Chains]int
	}{
		{small, [once.Chains]int{5, 0, 1, 0, 0, 0, 0, 0, 0, 0, 0, 0, 0, 0, 0, 0, 10, 14}},
		{mixed, [once.Chains]int{15, 14, 13, 12, 11, 10, 9, 8, 7, 6, 5, 4, 3, 2, 1, 0, 8, 7}},
		{0xf0e1d2c3b4a59687, [once.Chains]int{7, 8, 6, 9, 5, 10, 4, 11, 3, 12, 2, 13, 1, 14, 0, 15, 8, 7}},
	} {
		if got := once.Reach(hash.FromNum(x.msg)); got != x.want {
			t.Errorf("Reach(%#x): %v, want %v", x.msg, got, x.want)
		}
	}
	for place := range 16 {
		for digit := range 16 {
			msg := hash.FromNum(uint64(digit) << (4 * place))
			want := [once.Chains]int{16: (240 - digit) % 16, 17: (240 - digit) / 16}
			want[place] = digit
			if got := once.Reach(msg); got != want {
				t.Errorf("Reach(%x): %v, want %v", msg, got, want)
			}
		}
	}
}

// TestP52Told: the key that 144 bytes tell, whatever they are.
func TestP52Told(t *testing.T) {
	for _, x := range []struct{ msg, want uint64 }{
		{0, 0x4a12152a8200c0f9}, {mixed, 0xae9dfb4f4e136cdb}, {math.MaxUint64, 0x28247e116cc8c4ad},
	} {
		msg, want := hash.FromNum(x.msg), hash.FromNum(x.want)
		if got, ok := once.Told(msg, run(144)); !ok || got != want {
			t.Errorf("Told(%#x): %#x, %v; want %#x", x.msg, hash.Num(got), ok, x.want)
		}
		if !once.Verify(want, msg, run(144)) {
			t.Errorf("Verify of %#x: the bytes tell that key", x.msg)
		}
	}
}

// TestP52Length: what hasn't 144 bytes tells no key, so the zero digest neither.
func TestP52Length(t *testing.T) {
	for _, n := range []int{0, 1, 8, 18, 143, 145, 152, 288} {
		for _, msg := range []hash.Digest{{}, hash.FromNum(mixed)} {
			if got, ok := once.Told(msg, run(n)); ok || got != (hash.Digest{}) {
				t.Errorf("Told of %d bytes: %x, %v", n, got, ok)
			}
			if once.Verify(hash.Digest{}, msg, run(n)) {
				t.Errorf("Verify of %d bytes", n)
			}
		}
	}
	if got, ok := once.Told(hash.Digest{}, nil); ok || got != (hash.Digest{}) || once.Verify(hash.Digest{}, hash.Digest{}, nil) {
		t.Error("no bytes tell a key")
	}
	secret, msg := hash.FromNum(small), hash.FromNum(mixed)
	sig := once.Sign(secret, msg)
	if once.Verify(once.Public(secret), msg, sig[:143]) || once.Verify(once.Public(secret), msg, append(sig, 0)) {
		t.Error("a signature of another length is verified")
	}
}

// TestP52Verify: key, message and signature belong together.
func TestP52Verify(t *testing.T) {
	secret, msg := hash.FromNum(small), hash.FromNum(mixed)
	key, sig := once.Public(secret), once.Sign(secret, msg)
	if !once.Verify(key, msg, sig) {
		t.Fatal("it isn't verified")
	}
	for _, other := range some() {
		if other != key && once.Verify(other, msg, sig) || other != msg && once.Verify(key, other, sig) {
			t.Errorf("it is verified with %x", other)
		}
	}
	for i := range sig {
		wrong := bytes.Clone(sig)
		wrong[i] ^= 1 << (i % 8)
		if once.Verify(key, msg, wrong) {
			t.Errorf("it is verified with another byte %d", i)
		}
	}
}

// TestP53Ahead: the least chain, or none.
func TestP53Ahead(t *testing.T) {
	for _, x := range []struct {
		a, b uint64
		want int
	}{
		{0, 0, -1}, {mixed, mixed, -1}, {math.MaxUint64, math.MaxUint64, -1},
		{1, 0, 0}, {0, 1, 17}, {0x10, 0, 1}, {0x100, 0, 2}, {1 << 60, 0, 15}, {0, 1 << 60, 17}, {math.MaxUint64, 0, 0}, {0, math.MaxUint64, 17},
		{2, 1, 0}, {1, 2, 16}, {0x10, 0x01, 1}, {0x01, 0x10, 0}, {0x22, 0x12, 1}, {0x1f, 0x2e, 0}, {0x2e, 0x1f, 1}, {0xf1, 0xf2, 17},
	} {
		if got := once.Ahead(hash.FromNum(x.a), hash.FromNum(x.b)); got != x.want {
			t.Errorf("Ahead(%#x, %#x): %d, want %d", x.a, x.b, got, x.want)
		}
	}
	for _, a := range some() {
		for _, b := range some() {
			want := -1
			x, y := once.Reach(a), once.Reach(b)
			for chain := range 18 {
				if want < 0 && x[chain] > y[chain] {
					want = chain
				}
			}
			if got := once.Ahead(a, b); got != want {
				t.Errorf("Ahead(%x, %x): %d, want %d", a, b, got, want)
			}
		}
	}
}

// TestP53Shown: each chain's eight bytes, whatever they are.
func TestP53Shown(t *testing.T) {
	b := run(144)
	for chain := range 18 {
		if d, ok := once.Shown(b, chain); !ok || !bytes.Equal(d[:], b[8*chain:8*chain+8]) {
			t.Errorf("Shown(%d): %x, %v", chain, d, ok)
		}
	}
	for _, chain := range []int{-1, -8, 18, 19, 144, math.MinInt, math.MaxInt, math.MaxInt / 8} {
		if d, ok := once.Shown(b, chain); ok || d != (hash.Digest{}) {
			t.Errorf("Shown(%d): %x, %v", chain, d, ok)
		}
	}
	for _, n := range []int{0, 8, 143, 145, 152} {
		for _, chain := range []int{0, 17, 18, -1} {
			if d, ok := once.Shown(run(n), chain); ok || d != (hash.Digest{}) {
				t.Errorf("Shown(%d) of %d bytes: %x, %v", chain, n, d, ok)
			}
		}
	}
	if d, ok := once.Shown(nil, 0); ok || d != (hash.Digest{}) {
		t.Errorf("Shown of no bytes: %x, %v", d, ok)
	}
}

// TestP54Signs: what a secret signs is a signature by its key, and by no other one.
func TestP54Signs(t *testing.T) {
	secrets := some()[:6]
	for i, secret := range secrets {
		for _, msg := range some() {
			sig := once.Sign(secret, msg)
			if told, ok := once.Told(msg, sig); !ok || told != once.Public(secret) {
				t.Errorf("the signature of %x by %x tells %x, %v", msg, secret, told, ok)
			}
			for j, other := range secrets {
				if once.Verify(once.Public(other), msg, sig) != (i == j) {
					t.Errorf("the signature of %x by %x, verified by the key of %x", msg, secret, other)
				}
			}
		}
	}
}

// TestP54Ahead: of two unlike messages each is ahead in some chain, where the other one's signature shows what lies further back.
func TestP54Ahead(t *testing.T) {
	secret := hash.FromNum(mixed)
	for _, a := range some() {
		for _, b := range some() {
			chain := once.Ahead(a, b)
			if (chain < 0) != (a == b) {
				t.Errorf("Ahead(%x, %x): %d", a, b, chain)
			}
			if a == b {
				continue
			}
			far, _ := once.Shown(once.Sign(secret, a), chain)
			near, _ := once.Shown(once.Sign(secret, b), chain)
			steps := once.Reach(a)[chain] - once.Reach(b)[chain]
			if far == near || steps < 1 || hash.Chain(near, steps) != far {
				t.Errorf("%x and %x, chain %d: %x, %x", a, b, chain, far, near)
			}
		}
	}
}

// TestP54NewMemory: what is handed in is neither kept nor changed; answers are new memory.
func TestP54NewMemory(t *testing.T) {
	secret, msg := hash.FromNum(small), hash.FromNum(mixed)
	first, second := once.Sign(secret, msg), once.Sign(secret, msg)
	keep := bytes.Clone(second)
	_ = append(first, 1)
	clear(first)
	if !bytes.Equal(second, keep) || !bytes.Equal(once.Sign(secret, msg), keep) {
		t.Error("signatures share memory")
	}
	once.Told(msg, second)
	once.Verify(secret, msg, second)
	once.Shown(second, 3)
	if !bytes.Equal(second, keep) {
		t.Error("a signature that was handed in was changed")
	}
	shown, _ := once.Shown(second, 0)
	clear(second)
	if !bytes.Equal(shown[:], keep[:8]) {
		t.Error("what was shown is the signature's memory")
	}
	digits := once.Reach(msg)
	digits[0] = 99
	if again := once.Reach(msg); slices.Contains(again[:], 99) {
		t.Error("digits share memory")
	}
}
