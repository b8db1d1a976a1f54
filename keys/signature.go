package keys

import (
	"slices"

	"baize/api"
	"baize/hash"
	"baize/octet"
	"baize/once"
	"baize/tree"
)

// signature is what bytes of a signature's form tell.
type signature struct {
	key   int
	shown []byte // by which the key's signature is told
	path  []hash.Digest
}

// Verify tells whether a signature is one of a message.
func Verify(public, msg hash.Digest, sig []byte) bool {
	s, ok := parse(sig)
	if !ok {
		return false
	}
	key, ok := once.Told(msg, s.shown)
	return ok && tree.Check(public, s.key, key, s.path)
}

// Index tells which key a signature says it is by.
func Index(sig []byte) (int, bool) {
	s, ok := parse(sig)
	return s.key, ok
}

// parse tells what a signature's bytes say, if they have its form.
func parse(sig []byte) (signature, bool) {
	from := octet.NewReader(sig)
	key := from.Num(1<<MostHeight - 1)
	rest := sig[len(sig)-from.Left():]
	if from.Err() != api.OK || len(rest) < once.Size {
		return signature{}, false
	}
	shown, above := rest[:once.Size], rest[once.Size:]
	height := len(above) / hash.Size
	if len(above)%hash.Size != 0 || height > MostHeight || key >= 1<<height {
		return signature{}, false
	}
	path := make([]hash.Digest, 0, height)
	for d := range slices.Chunk(above, hash.Size) {
		path = append(path, hash.Digest(d))
	}
	return signature{key: int(key), shown: shown, path: path}, true
}
