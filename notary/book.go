package notary

import (
	"maps"

	"baize/api"
	"baize/hash"
)

// mostEntries is how many a book has room for: as many as two bytes have numbers.
const mostEntries = 1 << 16

// Book is who signed what: the ideal verifier.
type Book struct {
	numbers map[entry]int // of the entries, in the order in which they were signed first
}

// entry is a message that a key signed.
type entry struct{ key, msg hash.Digest }

// bookSigner is who signs by a key in a book.
type bookSigner struct {
	book *Book
	key  hash.Digest
}

// NewBook: one in which nothing stands.
func NewBook() *Book {
	return &Book{}
}

// Signer: who signs by a key.
func (b *Book) Signer(key hash.Digest) Signer {
	return bookSigner{book: b, key: key}
}

// Verify: was a message signed by a key, with this signature?
func (b *Book) Verify(key, msg hash.Digest, sig []byte) bool {
	if b == nil || len(sig) != 2 {
		return false
	}
	number, ok := b.numbers[entry{key, msg}]
	return ok && number == int(sig[0])|int(sig[1])<<8
}

// Signed: what a key signed, in order, each once.
func (b *Book) Signed(key hash.Digest) []hash.Digest {
	if b == nil {
		return nil
	}
	var l []hash.Digest
	for _, e := range b.entries() {
		if e.key == key {
			l = append(l, e.msg)
		}
	}
	return l
}

// Clone: one that is the same.
func (b *Book) Clone() *Book {
	if b == nil {
		return nil
	}
	return &Book{numbers: maps.Clone(b.numbers)}
}

// Same: do both hold the same?
func (b *Book) Same(o *Book) bool {
	if b == nil || o == nil {
		return b == o
	}
	return maps.Equal(b.numbers, o.numbers)
}

// entries gives a book's entries by their numbers.
func (b *Book) entries() []entry {
	l := make([]entry, len(b.numbers))
	for e, number := range b.numbers {
		l[number] = e
	}
	return l
}

// enter gives an entry's number, and makes the entry if it isn't there.
func (b *Book) enter(e entry) (int, api.Errno) {
	if number, ok := b.numbers[e]; ok {
		return number, api.OK
	}
	number := len(b.numbers)
	if number == mostEntries {
		return 0, api.ErrSpent
	}
	if b.numbers == nil {
		b.numbers = map[entry]int{}
	}
	b.numbers[e] = number
	return number, api.OK
}

// Key gives the signer's key.
func (s bookSigner) Key() hash.Digest {
	return s.key
}

// Sign gives the number of the message's entry, which stands in the book then.
func (s bookSigner) Sign(msg hash.Digest) ([]byte, api.Errno) {
	if s.book == nil {
		return nil, api.ErrArg
	}
	number, err := s.book.enter(entry{s.key, msg})
	if err != api.OK {
		return nil, err
	}
	return []byte{byte(number), byte(number >> 8)}, api.OK
}
