package code

import (
	"baize/api"
	"baize/octet"
)

// Encode gives instructions as bytes.
func Encode(l []Instr) ([]byte, api.Errno) {
	if _, err := Check(l, MostWords); err != api.OK {
		return nil, err
	}
	b := octet.PutNum(nil, uint64(len(l)))
	for _, i := range l {
		b = append(b, i.bytes()...)
	}
	return b, api.OK
}

// Decode gives the instructions that bytes are.
func Decode(b []byte) ([]Instr, api.Errno) {
	r := octet.NewReader(b)
	var l []Instr
	for range r.Num(MostCode) {
		i, err := readInstr(r)
		if err != api.OK {
			return nil, err
		}
		l = append(l, i)
	}
	if err := r.End(); err != api.OK {
		return nil, err
	}
	if _, err := Check(l, MostWords); err != api.OK {
		return nil, err
	}
	return l, api.OK
}

// bytes gives an instruction's bytes.
func (i Instr) bytes() []byte {
	b := octet.PutNum(nil, uint64(i.Op))
	three := i.numbers()
	for _, n := range three[:len(forms[i.Op].has)] {
		b = octet.PutInt(b, int64(n))
	}
	return b
}

// readInstr reads an instruction's bytes; what the reader's error is, its End tells.
func readInstr(r *octet.Reader) (Instr, api.Errno) {
	op := int(r.Num(Ops - 1))
	var three [most]int
	for k := range len(forms[op].has) {
		if three[k] = int(r.Int()); !inRange(three[k]) {
			return Instr{}, api.ErrRange
		}
	}
	return build(op, three), api.OK
}
