package notary_test

import (
	"bytes"
	"fmt"
	"math"
	"slices"
	"testing"

	"baize/api"
	"baize/hash"
	"baize/keys"
	"baize/notary"
)

// oneSig is a signer of a test: it always hands out the same bytes, or an error.
type oneSig struct {
	sig []byte
	err api.Errno
}

func (s oneSig) Key() hash.Digest { return hash.Digest{} }

func (s oneSig) Sign(hash.Digest) ([]byte, api.Errno) { return s.sig, s.err }

// asked is a verifier of a test: it takes signatures that have no bytes, and knows of what it was asked.
type asked struct {
	of  []hash.Digest
	len []int
}

func (a *asked) Verify(key, msg hash.Digest, sig []byte) bool {
	a.of, a.len = append(a.of, key), append(a.len, len(sig))
	return len(sig) == 0
}

// realOf gives a real signer, which there has to be.
func realOf(t *testing.T, secret uint64, height int) notary.Signer {
	t.Helper()
	s, err := notary.NewReal(hash.FromNum(secret), height)
	if s == nil || err != api.OK {
		t.Fatalf("NewReal(%d, %d): %s", secret, height, err.Word())
	}
	return s
}

// keysOf gives signers' keys.
func keysOf(signers []notary.Signer) []hash.Digest {
	var l []hash.Digest
	for _, s := range signers {
		l = append(l, s.Key())
	}
	return l
}

// TestP73: real signers are rings, real signatures theirs.
func TestP73(t *testing.T) {
	for _, height := range []int{0, 1, 3, 8} {
		s := realOf(t, mixed, height)
		ring, _ := keys.New(hash.FromNum(mixed), height)
		if s.Key() != ring.Public() {
			t.Errorf("height %d: the key is %x", height, s.Key())
		}
		for i := range uint64(1<<height + 2) {
			msg := hash.FromNum(i * i % (1<<height + 1))
			want, err := ring.Sign(msg)
			if got, e := s.Sign(msg); !bytes.Equal(got, want) || e != err {
				t.Fatalf("height %d: message %d: %x, %s; the ring answers %s", height, i, got, e.Word(), err.Word())
			}
			if notary.Real.Verify(notary.Real{}, s.Key(), msg, want) != (err == api.OK) {
				t.Errorf("height %d: message %d: %s", height, i, err.Word())
			}
		}
	}
	for _, height := range []int{-1, 9, math.MinInt, math.MaxInt} {
		if s, err := notary.NewReal(hash.FromNum(mixed), height); s != nil || err != api.ErrRange {
			t.Errorf("NewReal of the height %d: %v, %s", height, s, err.Word())
		}
	}
	s, v := realOf(t, mixed, 2), notary.Real{}
	sig := sign(t, s, 1)
	if !v.Verify(s.Key(), hash.FromNum(1), sig) {
		t.Error("a signature doesn't verify")
	}
	if v.Verify(s.Key(), hash.FromNum(2), sig) || v.Verify(hash.FromNum(1), hash.FromNum(1), sig) || v.Verify(s.Key(), hash.FromNum(1), sig[1:]) || v.Verify(hash.Digest{}, hash.Digest{}, nil) {
		t.Error("it verifies of something else")
	}
}

// TestP74: who lacks, and whether all are there: each kind of lack, and who is free.
func TestP74(t *testing.T) {
	b := book(t, [2]uint64{0, 9}, [2]uint64{1, 9}, [2]uint64{2, 9}, [2]uint64{1, 8})
	three := digests(0, 1, 2)
	x, y, z := []byte{0, 0}, []byte{1, 0}, []byte{2, 0}
	for _, c := range []struct {
		name    string
		v       notary.Verifier
		keys    []hash.Digest
		sigs    [][]byte
		free    []bool
		missing []int
		all     api.Errno
	}{
		{"all", b, three, [][]byte{x, y, z}, nil, nil, api.OK},
		{"none free by name", b, three, [][]byte{x, y, z}, []bool{false, false, false}, nil, api.OK},
		{"all, and free too", b, three, [][]byte{x, y, z}, []bool{true, true, true}, nil, api.OK},
		{"one of another message", b, three, [][]byte{x, {3, 0}, z}, nil, []int{1}, api.ErrSign},
		{"that one is free", b, three, [][]byte{x, {3, 0}, z}, []bool{false, true}, nil, api.OK},
		{"another one is free", b, three, [][]byte{x, {3, 0}, z}, []bool{true, false, true}, []int{1}, api.ErrSign},
		{"two the other way round", b, three, [][]byte{x, z, y}, nil, []int{1, 2}, api.ErrSign},
		{"none right", b, three, [][]byte{z, x, y}, nil, []int{0, 1, 2}, api.ErrSign},
		{"empty ones", b, three, [][]byte{nil, {}, z}, nil, []int{0, 1}, api.ErrSign},
		{"empty ones that are free", b, three, [][]byte{nil, {}, z}, []bool{true, true}, nil, api.OK},
		{"no signatures", b, three, nil, nil, []int{0, 1, 2}, api.ErrArg},
		{"no signatures, and all free", b, three, nil, []bool{true, true, true}, nil, api.ErrArg},
		{"too few", b, three, [][]byte{x, y}, nil, []int{2}, api.ErrArg},
		{"too few, and that one is free", b, three, [][]byte{x, y}, []bool{false, false, true}, nil, api.ErrArg},
		{"too few, and one isn't right", b, three, [][]byte{y, y}, nil, []int{0, 2}, api.ErrArg},
		{"one too many", b, three, [][]byte{x, y, z, z}, nil, nil, api.ErrArg},
		{"one too many, and one isn't right", b, three, [][]byte{x, x, z, z}, nil, []int{1}, api.ErrArg},
		{"no keys", b, nil, nil, nil, nil, api.ErrArg},
		{"no keys, but signatures", b, nil, [][]byte{x}, nil, nil, api.ErrArg},
		{"one key twice", b, digests(1, 1), [][]byte{y, y}, nil, nil, api.OK},
		{"free has more places", b, three, [][]byte{x, z, z}, []bool{false, false, false, true, true}, []int{1}, api.ErrSign},
		{"a nil verifier", nil, three, [][]byte{x, y, z}, nil, []int{0, 1, 2}, api.ErrSign},
		{"a nil verifier, one free", nil, three, [][]byte{x, y, z}, []bool{false, true}, []int{0, 2}, api.ErrSign},
		{"a nil verifier, all free", nil, three, [][]byte{x, y, z}, []bool{true, true, true}, nil, api.OK},
		{"a nil verifier, no keys", nil, nil, nil, nil, nil, api.ErrArg},
		{"another verifier", notary.Real{}, three, [][]byte{x, y, z}, nil, []int{0, 1, 2}, api.ErrSign},
	} {
		if got := notary.Missing(c.v, c.keys, hash.FromNum(9), c.sigs, c.free); !slices.Equal(got, c.missing) {
			t.Errorf("%s: Missing: %v, want %v", c.name, got, c.missing)
		}
		if got := notary.All(c.v, c.keys, hash.FromNum(9), c.sigs, c.free); got != c.all {
			t.Errorf("%s: All: %s, want %s", c.name, got.Word(), c.all.Word())
		}
	}
}

// TestP74Asked: of an empty signature that is there the verifier is asked, of one that isn't there it isn't, nor of who is free.
func TestP74Asked(t *testing.T) {
	v := &asked{}
	got := notary.Missing(v, digests(4, 5, 6, 7, 8), hash.FromNum(9), [][]byte{nil, {1}, {}, {2, 2}}, []bool{false, false, false, true})
	if !slices.Equal(got, []int{1, 4}) || !slices.Equal(v.of, digests(4, 5, 6)) || !slices.Equal(v.len, []int{0, 1, 0}) {
		t.Errorf("Missing: %v; asked of %x, with %v bytes", got, v.of, v.len)
	}
	if err := notary.All(&asked{}, digests(4, 5), hash.FromNum(9), [][]byte{nil, {}}, nil); err != api.OK {
		t.Errorf("All: %s", err.Word())
	}
}

// TestP74Gather: each one's signature, in order, or the first error.
func TestP74Gather(t *testing.T) {
	b, msg := notary.NewBook(), hash.FromNum(9)
	one, two, bad, worse := b.Signer(hash.FromNum(1)), b.Signer(hash.FromNum(2)), oneSig{[]byte{7}, api.ErrSpent}, oneSig{nil, api.ErrFull}
	for _, x := range []struct {
		name    string
		signers []notary.Signer
		want    [][]byte
		err     api.Errno
		entries int
	}{
		{"none", nil, nil, api.OK, 0},
		{"none, but a list", []notary.Signer{}, nil, api.OK, 0},
		{"a nil one", []notary.Signer{nil}, nil, api.ErrArg, 0},
		{"a nil one, then others", []notary.Signer{nil, two, bad}, nil, api.ErrArg, 0},
		{"an error, then others", []notary.Signer{bad, two, nil}, nil, api.ErrSpent, 0},
		{"two errors", []notary.Signer{worse, bad}, nil, api.ErrFull, 0},
		{"an error behind one that signs", []notary.Signer{two, bad, one}, nil, api.ErrSpent, 1},
		{"a nil one behind them", []notary.Signer{two, one, nil, bad}, nil, api.ErrArg, 2},
		{"two", []notary.Signer{two, one}, [][]byte{{0, 0}, {1, 0}}, api.OK, 2},
		{"the other way round, and one twice", []notary.Signer{one, two, one}, [][]byte{{1, 0}, {0, 0}, {1, 0}}, api.OK, 2},
		{"one without bytes", []notary.Signer{one, oneSig{}, two}, [][]byte{{1, 0}, nil, {0, 0}}, api.OK, 2},
	} {
		got, err := notary.Gather(msg, x.signers)
		if !slices.EqualFunc(got, x.want, bytes.Equal) || err != x.err {
			t.Errorf("%s: %v, %s", x.name, got, err.Word())
		}
		if entries := len(b.Signed(hash.FromNum(1))) + len(b.Signed(hash.FromNum(2))); entries != x.entries {
			t.Errorf("%s: %d entries", x.name, entries)
		}
	}
}

// TestP1NewMemory: what is handed in is neither kept nor changed; answers are new memory, whatever signers hand out.
func TestP1NewMemory(t *testing.T) {
	own := []byte{4, 5}
	sigs, _ := notary.Gather(hash.FromNum(9), []notary.Signer{oneSig{sig: own}, oneSig{sig: own}})
	sigs[0][0] = 9
	if !bytes.Equal(own, []byte{4, 5}) || !bytes.Equal(sigs[1], []byte{4, 5}) {
		t.Error("signatures that were gathered share memory")
	}
	b := book(t, [2]uint64{1, 9}, [2]uint64{2, 9})
	l, given, free := digests(1, 2), [][]byte{{0, 0}, {0, 1}}, []bool{false, true}
	if err := notary.All(b, l, hash.FromNum(9), given, free); err != api.OK {
		t.Errorf("All: %s", err.Word())
	}
	if !slices.Equal(l, digests(1, 2)) || !slices.EqualFunc(given, [][]byte{{0, 0}, {0, 1}}, bytes.Equal) || !slices.Equal(free, []bool{false, true}) {
		t.Error("All changes what it was given")
	}
	clear(sign(t, b.Signer(hash.FromNum(2)), 9))
	if got := sign(t, b.Signer(hash.FromNum(2)), 9); !bytes.Equal(got, []byte{1, 0}) {
		t.Errorf("a book keeps what its signer handed out: %v", got)
	}
}

// world is signers, and who tells what they signed.
type world struct {
	v       notary.Verifier
	signers []notary.Signer
}

// worlds gives signers of some secrets, real ones and those of a book.
func worlds(t *testing.T, height int, secrets ...uint64) map[string]world {
	b := notary.NewBook()
	var ideal, rings []notary.Signer
	for _, secret := range secrets {
		s := realOf(t, secret, height)
		rings = append(rings, s)
		ideal = append(ideal, b.Signer(s.Key()))
	}
	return map[string]world{"ideal": {b, ideal}, "real": {notary.Real{}, rings}}
}

// TestP75: in both worlds what a signer signed verifies, for good, and is the same again; what is gathered is all.
func TestP75(t *testing.T) {
	for name, w := range worlds(t, 3, 11, 22, 33) {
		list := keysOf(w.signers)
		var first [][][]byte
		for msg := range uint64(8) {
			sigs, err := notary.Gather(hash.FromNum(msg), w.signers)
			if err != api.OK || notary.All(w.v, list, hash.FromNum(msg), sigs, nil) != api.OK {
				t.Fatalf("%s: message %d isn't signed by all: %s", name, msg, err.Word())
			}
			first = append(first, sigs)
		}
		for msg := range uint64(8) {
			again, err := notary.Gather(hash.FromNum(msg), w.signers)
			if err != api.OK || !slices.EqualFunc(again, first[msg], bytes.Equal) {
				t.Errorf("%s: message %d has another signature: %s", name, msg, err.Word())
			}
			if missing := notary.Missing(w.v, list, hash.FromNum(msg), first[msg], nil); len(missing) != 0 {
				t.Errorf("%s: message %d is no longer signed by %v", name, msg, missing)
			}
			for other := range uint64(10) {
				if err := notary.All(w.v, list, hash.FromNum(other), first[msg], nil); (err == api.OK) != (other == msg) {
					t.Errorf("%s: the signatures of %d are those of %d: %s", name, msg, other, err.Word())
				}
			}
		}
	}
}

// TestT12: real signatures and the ideal book agree: the same deeds, told in the same words, come to the same.
func TestT12(t *testing.T) {
	told := map[string][]string{}
	for name, w := range worlds(t, 2, 11, 22, 33) {
		list := keysOf(w.signers)
		tell := func(what ...any) { told[name] = append(told[name], fmt.Sprint(what...)) }
		seen := map[string][]byte{} // each one's signature of each message
		for step := range uint64(40) {
			who, msg := step*step%3, step*7%4
			sig, err := w.signers[who].Sign(hash.FromNum(msg))
			at := fmt.Sprint(who, msg)
			was, again := seen[at]
			tell("sign", err, again && bytes.Equal(was, sig))
			seen[at] = sig
			for key := range list {
				for other := range uint64(5) {
					tell("verify", key, other, w.v.Verify(list[key], hash.FromNum(other), sig))
				}
			}
			sigs := [][]byte{seen[fmt.Sprint(0, msg)], seen[fmt.Sprint(1, msg)], seen[fmt.Sprint(2, msg)]}
			tell("missing", notary.Missing(w.v, list, hash.FromNum(msg), sigs, []bool{step%2 == 0}))
			tell("all", notary.All(w.v, list, hash.FromNum(msg), sigs, nil), notary.All(w.v, list, hash.FromNum(msg+1), sigs, nil), notary.All(w.v, list, hash.FromNum(msg), sigs[:2], nil))
			gathered, err := notary.Gather(hash.FromNum(step%4), w.signers)
			tell("gather", len(gathered), err, notary.All(w.v, list, hash.FromNum(step%4), gathered, nil))
		}
	}
	if len(told["real"]) < 600 || !slices.Equal(told["real"], told["ideal"]) {
		for i, line := range told["real"] {
			if i >= len(told["ideal"]) || told["ideal"][i] != line {
				t.Fatalf("line %d: real %s, ideal %s", i, line, told["ideal"][i])
			}
		}
		t.Fatalf("%d lines and %d", len(told["real"]), len(told["ideal"]))
	}
}

// TestT11: however often, and of however many messages a real signer is asked, no key of it signs two.
func TestT11(t *testing.T) {
	s := realOf(t, mixed, 2)
	by, of := map[int]uint64{}, map[uint64]int{}
	for step := range uint64(50) {
		msg := step * 3 % 7
		sig, err := s.Sign(hash.FromNum(msg))
		if _, known := of[msg]; err != api.OK {
			if err != api.ErrSpent || known || len(by) != 4 {
				t.Fatalf("message %d: %s, with %d keys taken", msg, err.Word(), len(by))
			}
			continue
		}
		i, ok := keys.Index(sig)
		other, was := by[i]
		before, again := of[msg]
		if !ok || was && other != msg || again && before != i {
			t.Fatalf("key %d signs %d, and %d", i, msg, other)
		}
		by[i], of[msg] = msg, i
	}
}
