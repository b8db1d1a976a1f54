// Package hash is layer 2: see shared/doc/02-hash.md.
package hash

// Size is how many bytes a digest has.
const Size = 8

// most is how many steps a chain, and how many bytes a stream, may have.
const most = 1 << 20

// Digest is a digest.
type Digest [Size]byte

// Of gives the digest of bytes.
func Of(b []byte) Digest {
	s := start(kindOf)
	s.takeBytes(b)
	return s.digest()
}

// One gives the digest of a digest.
func One(d Digest) Digest {
	s := start(kindOne)
	s.take(Num(d))
	return s.digest()
}

// Two gives the digest of two digests.
func Two(a, b Digest) Digest {
	s := start(kindTwo)
	s.take(Num(a))
	s.take(Num(b))
	return s.digest()
}

// Word gives the digest of a digest with a word.
func Word(d Digest, text string) Digest {
	s := start(kindWord)
	s.take(Num(d))
	s.takeBytes([]byte(text))
	return s.digest()
}

// Many gives the digest of digests, in order.
func Many(l []Digest) Digest {
	s := start(kindMany)
	for _, d := range l {
		s.take(Num(d))
	}
	s.take(uint64(len(l)))
	return s.digest()
}

// Chain gives One, done so often.
func Chain(d Digest, n int) Digest {
	if n < 1 || n > most {
		return d
	}
	for range n {
		d = One(d)
	}
	return d
}

// Num gives a digest as a number.
func Num(d Digest) uint64 {
	var n uint64
	for i, x := range d {
		n |= uint64(x) << (8 * i)
	}
	return n
}

// FromNum gives a number as a digest.
func FromNum(n uint64) Digest {
	var d Digest
	for i := range d {
		d[i] = byte(n >> (8 * i))
	}
	return d
}

// Stream gives as many bytes as one likes of a digest.
func Stream(d Digest, n int) []byte {
	if n < 1 || n > most {
		return nil
	}
	out := make([]byte, 0, n+Size)
	s := start(kindStream)
	s.take(Num(d))
	for len(out) < n {
		eight := s.digest()
		out = append(out, eight[:]...)
		s.stir()
	}
	return out[:n]
}
