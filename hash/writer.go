package hash

import (
	"bytes"
	"slices"
)

// Writer makes a digest of bytes that come in pieces.
type Writer struct {
	bytes  []byte // all of them: two that are the same can't be told by less
	eights state  // into which their whole eights were taken, so that Sum needn't go through them again
}

// NewWriter gives one that had no bytes.
func NewWriter() *Writer {
	return &Writer{eights: start(kindOf)}
}

// Write takes the next bytes.
func (w *Writer) Write(b []byte) {
	if w == nil {
		return
	}
	taken := len(w.bytes) - len(w.bytes)%Size
	w.bytes = append(w.bytes, b...)
	w.eights.takeEights(w.bytes[taken:])
}

// Sum gives the digest of all bytes so far.
func (w *Writer) Sum() Digest {
	if w == nil {
		return Of(nil)
	}
	s := w.eights
	s.takeEnd(w.bytes[len(w.bytes)-len(w.bytes)%Size:], len(w.bytes))
	return s.digest()
}

// Clone gives one that is the same.
func (w *Writer) Clone() *Writer {
	if w == nil {
		return nil
	}
	return &Writer{bytes: slices.Clone(w.bytes), eights: w.eights}
}

// Same tells whether both are the same.
func (w *Writer) Same(o *Writer) bool {
	if w == nil || o == nil {
		return w == o
	}
	// Unlike digests settle it at once; like ones don't, eight bytes being few.
	return w.Sum() == o.Sum() && bytes.Equal(w.bytes, o.bytes)
}
