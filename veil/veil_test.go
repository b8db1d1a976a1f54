package veil_test

import (
	"bytes"
	"encoding/hex"
	"math"
	"testing"

	"baize/api"
	"baize/hash"
	"baize/veil"
)

const (
	small = 261
	mixed = 0x0123456789abcdef
	most  = 65536
)

// run gives so many bytes, of which neighbours are unlike.
func run(n int) []byte {
	b := make([]byte, n)
	for i := range b {
		b[i] = byte(i * 37)
	}
	return b
}

// boxOf gives the box of plain bytes, by the chapter's words.
func boxOf(key hash.Digest, plain []byte) []byte {
	check := hash.Two(hash.Word(key, "check"), hash.Of(plain))
	stream := hash.Stream(hash.Two(hash.Word(key, "box"), check), len(plain))
	box := bytes.Clone(check[:])
	for i, x := range plain {
		box = append(box, x^stream[i])
	}
	return box
}

// TestExample: the chapter's.
func TestExample(t *testing.T) {
	box := veil.Seal(hash.FromNum(small), nil)
	if len(box) != 8 {
		t.Errorf("a box of no bytes has %d", len(box))
	}
	if plain, err := veil.Open(hash.FromNum(small), box); len(plain) != 0 || err != api.OK {
		t.Errorf("by the same key: %x, %s", plain, err.Word())
	}
	if plain, err := veil.Open(hash.FromNum(mixed), box); len(plain) != 0 || err != api.ErrOpen {
		t.Errorf("by another one: %x, %s", plain, err.Word())
	}
}

// The digests and bytes that are wanted here were reckoned by another program, from the chapters' words.

// TestP81Commit: commitments, and of what there is none.
func TestP81Commit(t *testing.T) {
	for _, x := range []struct {
		salt uint64
		size int
		want uint64
	}{
		{0, 0, 0x31cc0832b4f7d901}, {small, 0, 0xe8d4f6dbe67b7f3f}, {small, 1, 0xacb11274f12bc24a}, {mixed, 7, 0x2f9ddcb3aa1cd3d8}, {mixed, 8, 0x095c86ada721283f},
		{math.MaxUint64, 100, 0x5f27328657930c59}, {small, most, 0x414d14049a4066d9}, {small, most + 1, 0}, {small, 2 * most, 0},
	} {
		if got := veil.Commit(hash.FromNum(x.salt), run(x.size)); got != hash.FromNum(x.want) {
			t.Errorf("Commit(%#x, %d bytes): %#x, want %#x", x.salt, x.size, hash.Num(got), x.want)
		}
	}
	for size := range 50 {
		salt := hash.FromNum(uint64(size) * 3)
		if veil.Commit(salt, run(size)) != hash.Two(hash.Word(salt, "salt"), hash.Of(run(size))) {
			t.Errorf("of %d bytes: not as the chapter's words say", size)
		}
	}
	if veil.Commit(hash.Digest{}, nil) != veil.Commit(hash.Digest{}, []byte{}) {
		t.Error("nil and no bytes are one")
	}
}

// TestP81Opens: a commitment is opened by its salt and value alone.
func TestP81Opens(t *testing.T) {
	for _, size := range []int{0, 1, 7, 8, 100, most} {
		salt, value := hash.FromNum(mixed), run(size)
		c := veil.Commit(salt, value)
		if !veil.Opens(c, salt, value) {
			t.Errorf("%d bytes: it isn't opened", size)
		}
		if veil.Opens(hash.Digest{}, salt, value) || veil.Opens(hash.One(c), salt, value) || veil.Opens(c, hash.FromNum(mixed+1), value) || veil.Opens(c, c, value) {
			t.Errorf("%d bytes: another commitment, or salt, does as well", size)
		}
		for _, at := range []int{0, size / 2, size - 1} {
			if at < 0 || at >= size {
				continue
			}
			other := bytes.Clone(value)
			other[at] ^= 1
			if veil.Opens(c, salt, other) || veil.Opens(c, salt, value[:at]) {
				t.Errorf("%d bytes: another value does as well", size)
			}
		}
		if size < most && veil.Opens(c, salt, append(value, 0)) {
			t.Errorf("%d bytes: one more does as well", size)
		}
	}
	for _, size := range []int{most + 1, 2 * most} {
		long := run(size)
		for _, c := range []hash.Digest{{}, hash.Two(hash.Word(hash.FromNum(small), "salt"), hash.Of(long)), veil.Commit(hash.FromNum(small), long)} {
			if veil.Opens(c, hash.FromNum(small), long) {
				t.Errorf("%x opens to %d bytes", c, size)
			}
		}
	}
}

// TestP82Seal: boxes, byte by byte, and of what there is none.
func TestP82Seal(t *testing.T) {
	for _, x := range []struct {
		key  uint64
		size int
		want string
	}{
		{0, 0, "9b893d5f6e6ce035"}, {small, 0, "fa8e5a45c8c0b45c"}, {small, 1, "294eb18dcfb6c79161"}, {mixed, 8, "37d83f51e2f469a9fc0ed8da02bf7b37"},
		{math.MaxUint64, 21, "643518b990178ca991c0f746e21869fa156eb2817e4e20ee81c57e4e04"},
	} {
		if got := hex.EncodeToString(veil.Seal(hash.FromNum(x.key), run(x.size))); got != x.want {
			t.Errorf("Seal(%#x, %d bytes): %s, want %s", x.key, x.size, got, x.want)
		}
	}
	for _, size := range []int{0, 1, 2, 7, 8, 9, 15, 16, 17, 100, 4096, most - 1, most} {
		if got := veil.Seal(hash.FromNum(mixed), run(size)); !bytes.Equal(got, boxOf(hash.FromNum(mixed), run(size))) {
			t.Errorf("Seal of %d bytes: not as the chapter's words say", size)
		}
	}
	if got := veil.Seal(hash.FromNum(mixed), run(most)); len(got) != most+8 || hash.Of(got) != hash.FromNum(0x5102a22e4fa7ee44) {
		t.Errorf("the longest box has %d bytes", len(got))
	}
	for _, size := range []int{most + 1, 2 * most} {
		if got := veil.Seal(hash.FromNum(mixed), run(size)); len(got) != 0 {
			t.Errorf("Seal of %d bytes gives %d", size, len(got))
		}
	}
}

// TestP82Errors: each error, and which one is first.
func TestP82Errors(t *testing.T) {
	key := hash.FromNum(mixed)
	box := veil.Seal(key, run(20))
	for _, x := range []struct {
		name string
		key  hash.Digest
		box  []byte
		want api.Errno
	}{
		{"nothing", key, nil, api.ErrShort},
		{"one byte", key, box[:1], api.ErrShort},
		{"seven bytes", key, box[:7], api.ErrShort},
		{"a check word alone", key, box[:8], api.ErrOpen},
		{"eight bytes 0", hash.Digest{}, make([]byte, 8), api.ErrOpen},
		{"a byte less", key, box[:27], api.ErrOpen},
		{"a byte more", key, append(bytes.Clone(box), 0), api.ErrOpen},
		{"a byte ahead", key, append([]byte{0}, box...), api.ErrOpen},
		{"another key", hash.FromNum(mixed + 1), box, api.ErrOpen},
		{"no key", hash.Digest{}, box, api.ErrOpen},
		{"as many as there may be", key, run(most + 8), api.ErrOpen},
		{"one more", key, run(most + 9), api.ErrRange},
		{"a box of too much", key, boxOf(key, run(most+1)), api.ErrRange},
		{"a great deal", key, make([]byte, 1<<21), api.ErrRange},
	} {
		if plain, err := veil.Open(x.key, x.box); len(plain) != 0 || err != x.want {
			t.Errorf("%s: %d bytes, %s", x.name, len(plain), err.Word())
		}
	}
	for at := range box {
		for bit := range 8 {
			wrong := bytes.Clone(box)
			wrong[at] ^= 1 << bit
			if plain, err := veil.Open(key, wrong); len(plain) != 0 || err != api.ErrOpen {
				t.Errorf("byte %d changed by bit %d: %x, %s", at, bit, plain, err.Word())
			}
		}
	}
}

// TestP83: what is sealed is opened as it was, by its own key alone; a box is 8 longer than what is in it.
func TestP83(t *testing.T) {
	secrets := []hash.Digest{{}, hash.FromNum(small), hash.FromNum(mixed), hash.FromNum(math.MaxUint64)}
	for _, size := range []int{0, 1, 7, 8, 9, 16, 300, most - 1, most} {
		for i, key := range secrets {
			box, zeros := veil.Seal(key, run(size)), veil.Seal(key, make([]byte, size))
			if len(box) != size+8 || len(zeros) != size+8 {
				t.Errorf("%d bytes: boxes of %d and %d", size, len(box), len(zeros))
			}
			for j, other := range secrets {
				plain, err := veil.Open(other, box)
				if i == j && (err != api.OK || !bytes.Equal(plain, run(size))) || i != j && (err != api.ErrOpen || len(plain) != 0) {
					t.Errorf("%d bytes, sealed by key %d, opened by key %d: %d bytes, %s", size, i, j, len(plain), err.Word())
				}
			}
		}
	}
}

// TestP84: what is handed in isn't kept or changed; answers are new memory.
func TestP84(t *testing.T) {
	key, room := hash.FromNum(small), run(40)
	plain := room[:21]
	c := veil.Commit(key, plain)
	box := veil.Seal(key, plain)
	if !veil.Opens(c, key, plain) || !bytes.Equal(room, run(40)) {
		t.Error("plain bytes were changed")
	}
	clear(plain)
	longer := append(bytes.Clone(box), run(9)...)
	opened, err := veil.Open(key, longer[:len(box)])
	if err != api.OK || !bytes.Equal(opened, run(21)) || !bytes.Equal(longer, append(bytes.Clone(box), run(9)...)) {
		t.Error("a box was changed, or holds another one's memory")
	}
	clear(longer)
	if !bytes.Equal(opened, run(21)) {
		t.Error("what was opened is the box's memory")
	}
	keep := bytes.Clone(box)
	clear(opened)
	_ = append(box, 1, 2, 3)
	if again := veil.Seal(key, run(21)); !bytes.Equal(again, keep) || !bytes.Equal(box, keep) {
		t.Error("boxes share memory")
	}
	clear(box)
	if again := veil.Seal(key, run(21)); !bytes.Equal(again, keep) {
		t.Error("a box is kept")
	}
}
