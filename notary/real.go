package notary

import (
	"baize/api"
	"baize/hash"
	"baize/keys"
)

// Real is the verifier of real signatures (layer 6).
type Real struct{}

// realSigner is who signs by a ring's keys.
type realSigner struct{ ring *keys.Ring }

// Verify: is it a signature of a message by a key?
func (Real) Verify(key, msg hash.Digest, sig []byte) bool {
	return keys.Verify(key, msg, sig)
}

// NewReal: who signs by real keys, of a secret, for 2 to the height messages.
func NewReal(secret hash.Digest, height int) (Signer, api.Errno) {
	ring, err := keys.New(secret, height)
	if err != api.OK {
		return nil, err
	}
	return realSigner{ring}, api.OK
}

// Key gives what the signer's ring is known by.
func (s realSigner) Key() hash.Digest {
	return s.ring.Public()
}

// Sign gives the ring's signature.
func (s realSigner) Sign(msg hash.Digest) ([]byte, api.Errno) {
	return s.ring.Sign(msg)
}
