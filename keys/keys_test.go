package keys_test

import (
	"bytes"
	"encoding/hex"
	"math"
	"slices"
	"testing"

	"baize/api"
	"baize/hash"
	"baize/keys"
	"baize/octet"
	"baize/once"
	"baize/tree"
)

const (
	small = 261
	mixed = 0x0123456789abcdef
)

// messages gives so many that are unlike.
func messages(n int) []hash.Digest {
	l := make([]hash.Digest, n)
	for i := range l {
		l[i] = hash.Two(hash.FromNum(9), hash.FromNum(uint64(i)))
	}
	return l
}

// of gives a ring by which these messages were signed, one behind the other.
func of(t *testing.T, secret uint64, height int, signed ...hash.Digest) *keys.Ring {
	t.Helper()
	r, err := keys.New(hash.FromNum(secret), height)
	if r == nil || err != api.OK {
		t.Fatalf("New(%#x, %d): %s", secret, height, err.Word())
	}
	for _, msg := range signed {
		sign(t, r, msg)
	}
	return r
}

// sign gives a ring's signature, which there has to be.
func sign(t *testing.T, r *keys.Ring, msg hash.Digest) []byte {
	t.Helper()
	sig, err := r.Sign(msg)
	if err != api.OK {
		t.Fatalf("Sign(%x): %s", msg, err.Word())
	}
	return sig
}

// secretOf gives key i's secret, by the chapter's words.
func secretOf(secret hash.Digest, i int) hash.Digest {
	return hash.Two(hash.Word(secret, "key"), hash.FromNum(uint64(i)))
}

// publics gives all keys of a ring, by the chapter's words.
func publics(secret hash.Digest, height int) []hash.Digest {
	var l []hash.Digest
	for i := range 1 << height {
		l = append(l, once.Public(secretOf(secret, i)))
	}
	return l
}

// join gives a signature's bytes of its parts.
func join(i uint64, shown []byte, path []hash.Digest) []byte {
	b := append(octet.PutNum(nil, i), shown...)
	for _, d := range path {
		b = append(b, d[:]...)
	}
	return b
}

// holds looks whether a ring has signed these messages, in order, and what it answers of them.
func holds(t *testing.T, what string, r *keys.Ring, height int, ledger []hash.Digest) {
	t.Helper()
	if r.Used() != len(ledger) || r.Left() != 1<<height-len(ledger) || !slices.Equal(r.Ledger(), ledger) {
		t.Errorf("%s: %d used, %d left, ledger %x; want %x", what, r.Used(), r.Left(), r.Ledger(), ledger)
	}
	for i, msg := range ledger {
		if leaf, ok := r.Leaf(msg); leaf != i || !ok {
			t.Errorf("%s: Leaf of message %d: %d, %v", what, i, leaf, ok)
		}
	}
}

// TestExample: the chapter's.
func TestExample(t *testing.T) {
	r, l := of(t, small, 1), messages(3)
	for _, x := range []struct {
		msg hash.Digest
		key int
		err api.Errno
	}{{l[0], 0, api.OK}, {l[1], 1, api.OK}, {l[0], 0, api.OK}, {l[2], 0, api.ErrSpent}} {
		if i, err := r.Reserve(x.msg); i != x.key || err != x.err {
			t.Errorf("Reserve(%x): %d, %s", x.msg, i, err.Word())
		}
	}
}

// The digests and bytes that are wanted here were reckoned by another program, from the chapters' words.

// TestP61Public: what rings are known by, known ones and from their keys.
func TestP61Public(t *testing.T) {
	for _, x := range []struct {
		secret uint64
		height int
		want   uint64
	}{
		{0, 0, 0x9bc4c388bd8e5097}, {small, 0, 0x399c985edc1c74b7}, {small, 1, 0xd73aae0902e4e669}, {mixed, 2, 0x224980f9759287dd},
		{mixed, 3, 0xef9cfb629fe70173}, {math.MaxUint64, 5, 0x233e085d60170297}, {small, 8, 0x1f66b83cab82cb3f},
	} {
		r := of(t, x.secret, x.height)
		if r.Public() != hash.FromNum(x.want) {
			t.Errorf("of %#x, height %d: %#x, want %#x", x.secret, x.height, hash.Num(r.Public()), x.want)
		}
		root, _ := tree.Root(publics(hash.FromNum(x.secret), x.height))
		if r.Public() != root {
			t.Errorf("of %#x, height %d: not the root of its keys", x.secret, x.height)
		}
		if sign(t, r, messages(1)[0]); r.Public() != root {
			t.Errorf("of %#x, height %d: it is known by something else behind a signature", x.secret, x.height)
		}
	}
}

// TestP61New: at each height a ring of which no key is taken; and the heights that aren't.
func TestP61New(t *testing.T) {
	if keys.MostHeight != 8 {
		t.Error(keys.MostHeight)
	}
	for height := range 9 {
		holds(t, "a new ring", of(t, mixed, height), height, nil)
	}
	for _, height := range []int{-1, -8, 9, 10, 63, 64, math.MinInt, math.MaxInt} {
		if r, err := keys.New(hash.FromNum(mixed), height); r != nil || err != api.ErrRange {
			t.Errorf("New of the height %d: %v, %s", height, r != nil, err.Word())
		}
	}
}

// TestP62Reserve: the first key that isn't taken, once a message, till all are.
func TestP62Reserve(t *testing.T) {
	for _, height := range []int{0, 1, 3, 8} {
		r, l := of(t, mixed, height), messages(1<<height+1)
		last := len(l) - 1
		for i, msg := range l[:last] {
			for _, again := range []int{i, i / 2, 0} {
				if got, err := r.Reserve(l[again]); got != again || err != api.OK {
					t.Fatalf("height %d: Reserve of message %d: %d, %s", height, again, got, err.Word())
				}
			}
			if leaf, ok := r.Leaf(msg); leaf != i || !ok || r.Used() != i+1 {
				t.Fatalf("height %d: message %d has key %d, %v, of %d", height, i, leaf, ok, r.Used())
			}
		}
		if got, err := r.Reserve(l[last]); got != 0 || err != api.ErrSpent {
			t.Errorf("height %d: Reserve of one more: %d, %s", height, got, err.Word())
		}
		if sig, err := r.Sign(l[last]); len(sig) != 0 || err != api.ErrSpent {
			t.Errorf("height %d: Sign of one more: %x, %s", height, sig, err.Word())
		}
		holds(t, "when all are taken", r, height, l[:last])
		if got, err := r.Reserve(l[last-1]); got != last-1 || err != api.OK {
			t.Errorf("height %d: Reserve of the last one: %d, %s", height, got, err.Word())
		}
	}
}

// TestP62Known: signatures, byte by byte.
func TestP62Known(t *testing.T) {
	for _, x := range []struct {
		secret uint64
		height int
		key    int
		msg    uint64
		want   string
	}{
		{small, 0, 0, mixed, "004aa05d780f1bf9c9dcf1f4f852a36efba856b682ce4d150cb5ba395eb177f7ebca74774b792e1aaaca9dbba9329c9167444ac493fd592ee68ba36e65344c74c9aaae6b33ffff9979a19d0cec50d960025424ef357bbfc527074335cc9f6a3f0aedc6a9a4f38e777a695525e310d9ba2672c377d073c4a578b71e9cc0089cc2e1ae440844e3a21ff5b241863d0ff1a441"},
		{small, 1, 1, 0, "015ea893b42240cb67ee12039291000d293363b47d2a3f4717a18eb3822c09be09f9df6514e08b63840eff6033c4a1f51aae2b3fb288fcfd57d3e8263f5beab696f1a86fa0a320de7990d463fea97326f39cf03de1b94025cf2930a5ba86065efc8c1d82aa23a3b2989dce5b4d102adc0b969c03cc16f53256d2fdf52d1b90506d8e801f4ff42f42241163ed5e18e3d1d37d338cd1a5b6bc89"},
		{mixed, 2, 2, math.MaxUint64, "026cec4acfb3e10d06bb758ee396b8144ed74f6c48632335150e2fecb45eac0d936f5e0a8528963d5e0ec2862f4924c826295572c2511f85e547d7df0c8ef30b240003825c5345f5c206f52f01373d36840c9e2af221ae703f1023e65e2f1e0e55106513a5149ad59241a64588f825153a725842da3884a1d196d1ef3b91abd16c5a25f47772b657c12fe19fe3d03b58e9aadf1e885323968bb96fc642d2b16508"},
	} {
		r := of(t, x.secret, x.height, messages(x.key)...)
		if got := hex.EncodeToString(sign(t, r, hash.FromNum(x.msg))); got != x.want {
			t.Errorf("Sign(%#x) by key %d: %s", x.msg, x.key, got)
		}
	}
	r := of(t, small, 8, messages(200)...)
	if sig := sign(t, r, hash.FromNum(mixed)); len(sig) != 210 || hash.Of(sig) != hash.FromNum(0x501279750ff0d5e7) {
		t.Errorf("Sign by key 200 has %d bytes: %x", len(sig), sig)
	}
}

// TestP62Sign: each signature's parts; a message has one, however often it is asked for, reserved ahead or not.
func TestP62Sign(t *testing.T) {
	for _, height := range []int{0, 1, 2, 8} {
		secret, l := hash.FromNum(small), messages(1<<height)
		r, all := of(t, small, height), publics(hash.FromNum(small), height)
		var first [][]byte
		for i, msg := range l {
			if i%3 == 1 {
				r.Reserve(msg)
			}
			got := sign(t, r, msg)
			path, _ := tree.Path(all, i)
			if want := join(uint64(i), once.Sign(secretOf(secret, i), msg), path); !bytes.Equal(got, want) {
				t.Fatalf("height %d: Sign by key %d: %x", height, i, got)
			}
			first = append(first, got)
		}
		for i, msg := range l {
			if !bytes.Equal(sign(t, r, msg), first[i]) {
				t.Errorf("height %d: message %d has another signature now", height, i)
			}
		}
		holds(t, "signed twice", r, height, l)
	}
}

// TestP63: which keys are taken, and for which messages.
func TestP63(t *testing.T) {
	r, l := of(t, small, 2), messages(5)
	for n := range 5 {
		holds(t, "as it goes on", r, 2, l[:n])
		for _, msg := range append(l[n:], hash.Digest{}) {
			if leaf, ok := r.Leaf(msg); leaf != 0 || ok {
				t.Errorf("behind %d: Leaf(%x): %d, %v", n, msg, leaf, ok)
			}
		}
		if n%2 == 0 {
			r.Reserve(l[n])
		} else {
			r.Sign(l[n])
		}
	}
	holds(t, "the zero digest is a message too", of(t, small, 1, hash.Digest{}), 1, []hash.Digest{{}})
}
