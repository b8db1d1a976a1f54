package notary_test

import (
	"bytes"
	"slices"
	"testing"

	"baize/api"
	"baize/hash"
	"baize/notary"
)

const mixed = 0x0123456789abcdef

// digests gives those of numbers.
func digests(l ...uint64) []hash.Digest {
	var out []hash.Digest
	for _, n := range l {
		out = append(out, hash.FromNum(n))
	}
	return out
}

// sign gives a signer's signature, which there has to be.
func sign(t *testing.T, s notary.Signer, msg uint64) []byte {
	t.Helper()
	sig, err := s.Sign(hash.FromNum(msg))
	if err != api.OK {
		t.Fatalf("Sign(%d): %s", msg, err.Word())
	}
	return sig
}

// book gives one in which these keys signed these messages, pair by pair.
func book(t *testing.T, pairs ...[2]uint64) *notary.Book {
	t.Helper()
	b := notary.NewBook()
	for _, p := range pairs {
		sign(t, b.Signer(hash.FromNum(p[0])), p[1])
	}
	return b
}

// TestExample: the chapter's.
func TestExample(t *testing.T) {
	b := notary.NewBook()
	five, seven := b.Signer(hash.FromNum(5)), b.Signer(hash.FromNum(7))
	if got := sign(t, five, 1); !bytes.Equal(got, []byte{0, 0}) {
		t.Errorf("5 signs 1: %v", got)
	}
	if got := sign(t, seven, 1); !bytes.Equal(got, []byte{1, 0}) {
		t.Errorf("7 signs 1: %v", got)
	}
	if got := sign(t, five, 1); !bytes.Equal(got, []byte{0, 0}) {
		t.Errorf("5 signs 1 again: %v", got)
	}
}

// TestP71Sign: each entry's number, and once an entry.
func TestP71Sign(t *testing.T) {
	b := notary.NewBook()
	for i := range uint64(700) {
		key, msg := i%7, i/7
		s := b.Signer(hash.FromNum(key))
		if s.Key() != hash.FromNum(key) {
			t.Fatalf("the signer of %d has the key %x", key, s.Key())
		}
		want := []byte{byte(i % 256), byte(i / 256)}
		if got := sign(t, s, msg); !bytes.Equal(got, want) {
			t.Fatalf("entry %d: %v", i, got)
		}
		if got := sign(t, s, msg); !bytes.Equal(got, want) {
			t.Fatalf("entry %d, once more: %v", i, got)
		}
	}
	for i := range uint64(700) {
		if got := sign(t, b.Signer(hash.FromNum(i%7)), i/7); !bytes.Equal(got, []byte{byte(i), byte(i >> 8)}) {
			t.Fatalf("entry %d has another signature now: %v", i, got)
		}
	}
}

// TestP71Verify: an entry's key, message and number belong together.
func TestP71Verify(t *testing.T) {
	pairs := [][2]uint64{{5, 1}, {7, 1}, {5, 2}, {1, 5}, {0, 0}}
	b := book(t, pairs...)
	for key := range uint64(9) {
		for msg := range uint64(7) {
			for number := range 300 {
				want := number < len(pairs) && pairs[number] == [2]uint64{key, msg}
				if got := b.Verify(hash.FromNum(key), hash.FromNum(msg), []byte{byte(number), byte(number >> 8)}); got != want {
					t.Errorf("Verify(%d, %d, %d): %v", key, msg, number, got)
				}
			}
		}
	}
	for _, sig := range [][]byte{nil, {}, {0}, {0, 0, 0}, {0, 1}, {0, 0, 1}, make([]byte, 144)} {
		if b.Verify(hash.FromNum(5), hash.FromNum(1), sig) {
			t.Errorf("%v is no signature of the entry 0", sig)
		}
	}
	if notary.NewBook().Verify(hash.Digest{}, hash.Digest{}, []byte{0, 0}) {
		t.Error("in a book without entries something verifies")
	}
}

// TestP71Signed: a key's messages, in the order in which they were signed first.
func TestP71Signed(t *testing.T) {
	b := book(t, [2]uint64{5, 9}, [2]uint64{7, 1}, [2]uint64{5, 3}, [2]uint64{5, 9}, [2]uint64{7, 9}, [2]uint64{5, 6}, [2]uint64{5, 3}, [2]uint64{0, 0})
	for key, want := range map[uint64][]hash.Digest{5: digests(9, 3, 6), 7: digests(1, 9), 0: digests(0), 9: nil} {
		if got := b.Signed(hash.FromNum(key)); !slices.Equal(got, want) {
			t.Errorf("Signed(%d): %x", key, got)
		}
	}
	clear(b.Signed(hash.FromNum(5)))
	if got := b.Signed(hash.FromNum(5)); !slices.Equal(got, digests(9, 3, 6)) {
		t.Errorf("a book shares what it answers: %x", got)
	}
	if got := notary.NewBook().Signed(hash.Digest{}); len(got) != 0 {
		t.Errorf("of a book without entries: %x", got)
	}
}

// TestP71Room: there are 65536 entries, and no more.
func TestP71Room(t *testing.T) {
	b := notary.NewBook()
	s := b.Signer(hash.FromNum(5))
	for i := range uint64(1 << 16) {
		if got := sign(t, s, i); len(got) != 2 || got[0] != byte(i) || got[1] != byte(i>>8) {
			t.Fatalf("entry %d: %v", i, got)
		}
	}
	keep := b.Clone()
	for _, x := range []struct{ key, msg uint64 }{{5, 1 << 16}, {7, 0}, {7, 1 << 16}} {
		if sig, err := b.Signer(hash.FromNum(x.key)).Sign(hash.FromNum(x.msg)); len(sig) != 0 || err != api.ErrSpent {
			t.Errorf("%d signs %d in a full book: %v, %s", x.key, x.msg, sig, err.Word())
		}
		if b.Verify(hash.FromNum(x.key), hash.FromNum(x.msg), []byte{0, 0}) {
			t.Errorf("%d signed %d in a full book", x.key, x.msg)
		}
	}
	if !b.Same(keep) || len(b.Signed(hash.FromNum(5))) != 1<<16 || len(b.Signed(hash.FromNum(7))) != 0 {
		t.Error("a full book was changed")
	}
	if got := sign(t, s, 1<<16-1); !bytes.Equal(got, []byte{255, 255}) || !b.Verify(hash.FromNum(5), hash.FromNum(1<<16-1), got) {
		t.Errorf("the last entry: %v", got)
	}
	if got := sign(t, b.Signer(hash.FromNum(5)), 258); !bytes.Equal(got, []byte{2, 1}) {
		t.Errorf("an entry of a full book: %v", got)
	}
}

// TestP72Clone: another one that is the same, and shares nothing.
func TestP72Clone(t *testing.T) {
	b := book(t, [2]uint64{5, 1}, [2]uint64{7, 1})
	old := b.Signer(hash.FromNum(5))
	c := b.Clone()
	if c == b || !c.Same(b) || !b.Same(c) {
		t.Fatal("a clone is another book that is the same")
	}
	one, two := sign(t, old, 2), sign(t, c.Signer(hash.FromNum(5)), 3)
	if !bytes.Equal(one, []byte{2, 0}) || !bytes.Equal(two, one) || b.Same(c) || c.Same(b) {
		t.Errorf("each goes on by itself: %v, %v", one, two)
	}
	if !slices.Equal(b.Signed(hash.FromNum(5)), digests(1, 2)) || !slices.Equal(c.Signed(hash.FromNum(5)), digests(1, 3)) {
		t.Errorf("%x and %x", b.Signed(hash.FromNum(5)), c.Signed(hash.FromNum(5)))
	}
	for msg, want := range map[uint64][2]bool{1: {true, true}, 2: {true, false}, 3: {false, true}} {
		sig := one
		if msg == 1 {
			sig = []byte{0, 0}
		}
		if got := [2]bool{b.Verify(hash.FromNum(5), hash.FromNum(msg), sig), c.Verify(hash.FromNum(5), hash.FromNum(msg), sig)}; got != want {
			t.Errorf("5 signed %d: %v", msg, got)
		}
	}
	empty := notary.NewBook()
	sign(t, empty.Clone().Signer(hash.FromNum(5)), 1)
	if !empty.Same(notary.NewBook()) {
		t.Error("a book without entries shares with its clone")
	}
}

// TestP72Same: all entries, in their order.
func TestP72Same(t *testing.T) {
	books := func() []*notary.Book {
		return []*notary.Book{
			book(t), book(t, [2]uint64{5, 1}), book(t, [2]uint64{1, 5}), book(t, [2]uint64{5, 1}, [2]uint64{7, 1}), book(t, [2]uint64{7, 1}, [2]uint64{5, 1}),
			book(t, [2]uint64{5, 1}, [2]uint64{5, 2}), book(t, [2]uint64{5, 1}, [2]uint64{7, 1}, [2]uint64{5, 2}), book(t, [2]uint64{0, 0}), nil,
		}
	}
	first, second := books(), books()
	for i, a := range first {
		for j, b := range second {
			if a.Same(b) != (i == j) {
				t.Errorf("books %d and %d: Same %v", i, j, a.Same(b))
			}
		}
	}
	b := book(t)
	b.Signer(hash.FromNum(5))
	if !b.Same(notary.NewBook()) {
		t.Error("a signer alone makes no entry")
	}
	if !book(t, [2]uint64{5, 1}, [2]uint64{7, 1}, [2]uint64{5, 1}).Same(book(t, [2]uint64{5, 1}, [2]uint64{7, 1})) {
		t.Error("what is signed again makes no entry")
	}
}

// TestP72Nil: a nil book.
func TestP72Nil(t *testing.T) {
	var b *notary.Book
	s := b.Signer(hash.FromNum(mixed))
	if s == nil || s.Key() != hash.FromNum(mixed) {
		t.Fatal("its signer has the key")
	}
	for range 2 {
		if sig, err := s.Sign(hash.FromNum(1)); len(sig) != 0 || err != api.ErrArg {
			t.Errorf("Sign: %v, %s", sig, err.Word())
		}
	}
	if b.Verify(hash.FromNum(mixed), hash.FromNum(1), []byte{0, 0}) || len(b.Signed(hash.FromNum(mixed))) != 0 || b.Clone() != nil {
		t.Error("something isn't nothing")
	}
	if !b.Same(nil) || b.Same(notary.NewBook()) || notary.NewBook().Same(nil) {
		t.Error("a nil book is the same as a nil one alone")
	}
}

// TestP1Zero: a book that no call made hasn't any entries either, and nothing panics.
func TestP1Zero(t *testing.T) {
	b := new(notary.Book)
	if !b.Same(notary.NewBook()) || !b.Clone().Same(b) || len(b.Signed(hash.Digest{})) != 0 {
		t.Error("a zero book has no entries")
	}
	if got := sign(t, b.Signer(hash.FromNum(5)), 1); !b.Verify(hash.FromNum(5), hash.FromNum(1), got) || !b.Same(book(t, [2]uint64{5, 1})) {
		t.Errorf("signed in it: %v", got)
	}
}
