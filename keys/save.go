package keys

import (
	"baize/api"
	"baize/hash"
	"baize/octet"
	"baize/tree"
)

// Save gives a ring as bytes.
func (r *Ring) Save() []byte {
	if r == nil {
		return nil
	}
	b := octet.PutBytes(nil, r.secret[:])
	b = octet.PutNum(b, uint64(tree.Height(r.keys.Len())))
	b = octet.PutNum(b, uint64(r.Used()))
	for _, msg := range r.Ledger() {
		b = octet.PutBytes(b, msg[:])
	}
	return b
}

// Open gives the ring that bytes are.
func Open(b []byte) (*Ring, api.Errno) {
	var secret hash.Digest
	var height, used int
	var taken map[hash.Digest]int
	from := octet.NewReader(b)
	err := inOrder(
		func() (err api.Errno) {
			secret, err = readDigest(from)
			return err
		},
		func() api.Errno {
			height = int(from.Num(MostHeight))
			return from.Err()
		},
		func() api.Errno {
			used = int(from.Num(1 << height))
			return from.Err()
		},
		func() (err api.Errno) {
			taken, err = readLedger(from, used)
			return err
		},
		from.End,
	)
	if err != api.OK {
		return nil, err
	}
	r, err := New(secret, height)
	if err != api.OK {
		return nil, err
	}
	r.taken = taken
	return r, api.OK
}

// inOrder asks for one read behind the other, up to the first error.
func inOrder(reads ...func() api.Errno) api.Errno {
	for _, read := range reads {
		if err := read(); err != api.OK {
			return err
		}
	}
	return api.OK
}

// readDigest reads eight bytes, told as bytes.
func readDigest(from *octet.Reader) (hash.Digest, api.Errno) {
	b := from.Bytes(hash.Size)
	if err := from.Err(); err != api.OK {
		return hash.Digest{}, err
	}
	if len(b) != hash.Size {
		return hash.Digest{}, api.ErrForm
	}
	return hash.Digest(b), api.OK
}

// readLedger reads the messages for which so many keys were taken, from key 0 on.
func readLedger(from *octet.Reader, used int) (map[hash.Digest]int, api.Errno) {
	taken := map[hash.Digest]int{}
	for i := range used {
		msg, err := readDigest(from)
		if err != api.OK {
			return nil, err
		}
		if _, ok := taken[msg]; ok {
			return nil, api.ErrTwice
		}
		taken[msg] = i
	}
	return taken, api.OK
}
