package code_test

import (
	"math"
	"math/big"
	"math/rand"
	"regexp"
	"slices"
	"strconv"
	"strings"
	"testing"

	"baize/api"
	"baize/code"
	"baize/octet"
)

// TestP142Encode: each operation's bytes, and Check's errors.
func TestP142Encode(t *testing.T) {
	r := rand.New(rand.NewSource(142))
	for range 300 {
		l := several(r, 1+r.Intn(30))
		want := octet.PutNum(nil, uint64(len(l)))
		for _, i := range l {
			want = octet.PutNum(want, uint64(i.Op))
			for k := range rows()[i.Op][1:] {
				want = octet.PutInt(want, int64(three(i)[k]))
			}
		}
		if b, e := code.Encode(l); e != api.OK || !slices.Equal(b, want) {
			t.Fatal(l, b, want, e)
		}
		if got, e := code.Decode(want); e != api.OK || !slices.Equal(got, l) {
			t.Fatal(l, got, e)
		}
	}
	for _, x := range wrong() {
		if b, e := code.Encode(x.l); b != nil || e != x.e {
			t.Error(b, e)
		}
		if s, e := code.List(x.l); s != "" || e != x.e {
			t.Error(s, e)
		}
	}
}

// fault is instructions that are no list, and why.
type fault struct {
	l []code.Instr
	e api.Errno
}

// wrong gives some.
func wrong() []fault {
	halt := code.Instr{Op: code.Halt}
	return []fault{
		{nil, api.ErrRange}, {[]code.Instr{}, api.ErrRange}, {slices.Repeat([]code.Instr{halt}, 2049), api.ErrRange},
		{[]code.Instr{halt, {Op: 22}}, api.ErrForm}, {[]code.Instr{{Op: -1}}, api.ErrForm}, {[]code.Instr{{Op: code.Set, A: 256}}, api.ErrForm}, {[]code.Instr{{Op: code.Jump, A: 1}}, api.ErrForm}, {[]code.Instr{{Op: code.Halt, C: 1}}, api.ErrForm},
	}
}

// TestP142Most: as many as there may be, and words up to the last one.
func TestP142Most(t *testing.T) {
	l := slices.Repeat([]code.Instr{{Op: code.Cut, A: 255, B: -1 << 31, C: -1 << 31}}, 2048)
	l[2047] = code.Instr{Op: code.Jump, A: 2047}
	b, e := code.Encode(l)
	if e != api.OK {
		t.Fatal(e)
	}
	if got, e := code.Decode(b); e != api.OK || !slices.Equal(got, l) {
		t.Error(e)
	}
	s, e := code.List(l)
	if e != api.OK {
		t.Fatal(e)
	}
	if got, line, e := code.Parse(s); e != api.OK || line != 0 || !slices.Equal(got, l) {
		t.Error(line, e)
	}
}

// put gives the bytes of how many there are, an operation, and its numbers.
func put(count, op uint64, n ...int64) []byte {
	b := octet.PutNum(octet.PutNum(nil, count), op)
	for _, x := range n {
		b = octet.PutInt(b, x)
	}
	return b
}

// TestP142Decode: what is wrong first.
func TestP142Decode(t *testing.T) {
	huge := octet.PutNum([]byte{1, 1, 0}, math.MaxUint64)
	for k, x := range []struct {
		b []byte
		e api.Errno
	}{
		{nil, api.ErrShort}, {[]byte{}, api.ErrShort}, {[]byte{0}, api.ErrRange}, {[]byte{0, 0}, api.ErrLong}, {octet.PutNum(nil, 2049), api.ErrRange}, {octet.PutNum(nil, 2048), api.ErrShort}, {octet.PutNum(nil, math.MaxUint64), api.ErrRange}, {[]byte{0x80, 0}, api.ErrForm},
		{[]byte{1}, api.ErrShort}, {[]byte{1, 22}, api.ErrRange}, {[]byte{1, 21}, api.ErrShort}, {[]byte{1, 0}, api.ErrShort}, {[]byte{1, 0, 0}, api.OK}, {[]byte{1, 0, 2}, api.OK}, {[]byte{1, 0, 4}, api.ErrForm}, {[]byte{1, 0, 1}, api.ErrForm}, {[]byte{1, 0, 0, 0}, api.ErrLong}, {[]byte{1, 0, 4, 0}, api.ErrLong}, {[]byte{1, 0, 0x80, 0}, api.ErrForm}, {[]byte{1, 0x80, 0, 7}, api.ErrForm},
		{[]byte{2, 0, 0}, api.ErrShort}, {[]byte{2, 0, 4, 0}, api.ErrShort}, {[]byte{2, 0, 4, 22}, api.ErrRange}, {[]byte{2, 0, 4, 0, 0}, api.ErrForm},
		{put(1, code.Set, 0, 1<<31-1), api.OK}, {put(1, code.Set, 0, -1<<31), api.OK}, {put(1, code.Set, 0, 1<<31), api.ErrRange}, {put(1, code.Set, 0, -1<<31-1), api.ErrRange}, {put(1, code.Set, 0, math.MinInt64), api.ErrRange}, {put(1, code.Set, 0, 1<<32), api.ErrRange}, {huge, api.ErrRange},
		{put(1, code.Set, 1<<31), api.ErrRange}, {put(1, code.Set, 256, 1<<31), api.ErrRange}, {put(1, code.Set, 256), api.ErrShort}, {put(1, code.Set, 256, 0), api.ErrForm}, {put(1, code.Set, 255, 0), api.OK},
		{append(put(1, code.Jump, 1<<31), 0x80, 0), api.ErrRange}, {put(1, code.Jump, 0, 7), api.ErrLong}, {put(1, code.Jump, 1), api.ErrForm}, {put(2, code.Jump, 1), api.ErrShort}, {put(2, code.Jump, 1, 0, 0), api.OK},
		{put(2, code.Halt, 1<<31), api.ErrRange}, {append(put(2, code.Set, 0), 0x80), api.ErrShort},
	} {
		l, e := code.Decode(x.b)
		if e != x.e || (l == nil) != (e != api.OK) {
			t.Error(k, x.b, l, e)
		}
	}
}

// TestP145Bytes: whatever bytes are read are those that are told.
func TestP145Bytes(t *testing.T) {
	r := rand.New(rand.NewSource(145))
	read := 0
	for range 20000 {
		b, _ := code.Encode(several(r, 1+r.Intn(3)))
		for range r.Intn(3) {
			b[r.Intn(len(b))] = byte(r.Intn(256))
		}
		b = b[:len(b)-r.Intn(2)*r.Intn(2)]
		l, e := code.Decode(b)
		if e != api.OK {
			continue
		}
		read++
		if again, e := code.Encode(l); e != api.OK || !slices.Equal(again, b) {
			t.Fatal(b, l, again, e)
		}
	}
	if read < 1000 {
		t.Error(read)
	}
}

// TestP144Word: names, and none.
func TestP144Word(t *testing.T) {
	for op, row := range rows() {
		if code.Word(op) != row[0] {
			t.Error(op, code.Word(op))
		}
	}
	for _, op := range []int{math.MinInt, -1, 22, 23, math.MaxInt} {
		if s := code.Word(op); s != "" {
			t.Error(op, s)
		}
	}
}

// TestP144List: a line for each.
func TestP144List(t *testing.T) {
	l := []code.Instr{{Op: code.Set, A: 3, B: -2147483648}, {Op: code.Cut, A: 4, B: 0, C: 9}, {Op: code.Jnz, A: 3, B: 255}, {Op: code.Halt, A: 1}, {Op: code.Within, A: 1, B: 2, C: 2147483647}}
	const want = "set 3 -2147483648\ncut 4 0 9\njnz 3 255\nhalt 1\nwithin 1 2 2147483647\n"
	if s, e := code.List(l); s != want || e != api.OK {
		t.Errorf("%q %v", s, e)
	}
	if got, line, e := code.Parse(want); !slices.Equal(got, l) || line != 0 || e != api.OK {
		t.Error(got, line, e)
	}
}

// TestP144Parse: what is wrong first, and in which line.
func TestP144Parse(t *testing.T) {
	for _, x := range []struct {
		s    string
		line int
		e    api.Errno
	}{
		{"", 0, api.ErrRange}, {"\n", 1, api.ErrForm}, {"halt 0", 1, api.ErrShort}, {"halt 0\n", 0, api.OK}, {"halt 0\n\n", 2, api.ErrForm}, {"halt 0\nhalt 1\n", 0, api.OK}, {"halt 0\nhalt 1", 2, api.ErrShort},
		{"halt", 1, api.ErrForm}, {"halt\n", 1, api.ErrForm}, {"halt \n", 1, api.ErrForm}, {"halt  0\n", 1, api.ErrForm}, {"halt 0 \n", 1, api.ErrForm}, {"halt 0 0\n", 1, api.ErrForm}, {" halt 0\n", 1, api.ErrName}, {" \n", 1, api.ErrName}, {"Halt 0\n", 1, api.ErrName}, {"hal 0\n", 1, api.ErrName}, {"halt\t0\n", 1, api.ErrName}, {"halt 0\r\n", 1, api.ErrForm}, {"0 halt\n", 1, api.ErrName}, {"hält 0\n", 1, api.ErrName},
		{"halt 00\n", 1, api.ErrForm}, {"halt -0\n", 1, api.ErrForm}, {"halt +0\n", 1, api.ErrForm}, {"halt -\n", 1, api.ErrForm}, {"halt --1\n", 1, api.ErrForm}, {"halt 1_0\n", 1, api.ErrForm}, {"halt 0x1\n", 1, api.ErrForm}, {"halt 1-\n", 1, api.ErrForm}, {"halt ١\n", 1, api.ErrForm}, {"halt -01\n", 1, api.ErrForm}, {"halt 1.\n", 1, api.ErrForm},
		{"set 0 2147483647\n", 0, api.OK}, {"set 0 2147483648\n", 1, api.ErrRange}, {"set 0 -2147483648\n", 0, api.OK}, {"set 0 -2147483649\n", 1, api.ErrRange}, {"set 0 4294967296\n", 1, api.ErrRange}, {"set 0 18446744073709551616\n", 1, api.ErrRange}, {"set 0 -99999999999999999999999\n", 1, api.ErrRange}, {"set 0 099999999999\n", 1, api.ErrForm}, {"set 0 99999999999x\n", 1, api.ErrForm}, {"set 0 x99999999999\n", 1, api.ErrForm},
		{"set 99999999999 x\n", 1, api.ErrRange}, {"set x 99999999999\n", 1, api.ErrForm}, {"set 99999999999\n", 1, api.ErrRange}, {"set 99999999999 0 0\n", 1, api.ErrRange}, {"set 0 0 99999999999\n", 1, api.ErrForm}, {"set 0\n", 1, api.ErrForm}, {"set 99999999999 \n", 1, api.ErrRange}, {"st 99999999999\n", 1, api.ErrName}, {"add 0 0\n", 1, api.ErrForm}, {"add 0 0 0 0\n", 1, api.ErrForm}, {"add 0 0 0\n", 0, api.OK},
		{"set 0 x", 1, api.ErrForm}, {"set 0 99999999999", 1, api.ErrRange}, {"foo", 1, api.ErrName}, {"halt 0\nset 0", 2, api.ErrForm}, {"halt 0\n ", 2, api.ErrName}, {"halt 0\nhalt x\nfoo\n", 2, api.ErrForm},
		{"halt 2\n", 0, api.ErrForm}, {"halt 2\nfoo\n", 2, api.ErrName}, {"halt 2\nhalt 0", 2, api.ErrShort}, {"jump 1\n", 0, api.ErrForm}, {"jump 1\nhalt 0\n", 0, api.OK}, {"set 256 0\n", 0, api.ErrForm}, {"set 255 0\n", 0, api.OK}, {"cut 0 1 0\n", 0, api.ErrForm}, {"within 0 0 -1\n", 0, api.ErrForm}, {"jump -1\n", 0, api.ErrForm},
		{strings.Repeat("halt 0\n", 2048), 0, api.OK}, {strings.Repeat("halt 0\n", 2049), 0, api.ErrRange}, {strings.Repeat("halt 0\n", 5000) + "x", 5001, api.ErrName}, {strings.Repeat("halt 0\n", 2048) + "\n", 2049, api.ErrForm},
		{strings.Repeat(" ", 1<<17), 1, api.ErrName}, {strings.Repeat(" ", 1<<17+1), 0, api.ErrRange}, {"halt" + strings.Repeat(" ", 1<<17-4), 1, api.ErrForm}, {"set 0 " + strings.Repeat("9", 1<<17-7) + "\n", 1, api.ErrRange}, {"x\n" + strings.Repeat("a", 1<<17), 0, api.ErrRange},
	} {
		l, line, e := code.Parse(x.s)
		if e != x.e || line != x.line || (l == nil) != (e != api.OK) {
			t.Errorf("%.40q: %v %d %v", x.s, l, line, e)
		}
	}
}

// number is a number as a list tells it.
var number = regexp.MustCompile(`^(0|-?[1-9][0-9]*)$`)

// lineError is another look at what is wrong in a line.
func lineError(s string) api.Errno {
	words := strings.Split(s, " ")
	op := slices.IndexFunc(rows(), func(row []string) bool { return row[0] == words[0] })
	if s == "" {
		return api.ErrForm
	}
	if op < 0 {
		return api.ErrName
	}
	count := len(rows()[op]) - 1
	for k, word := range words[1:] {
		if k >= count || !number.MatchString(word) {
			return api.ErrForm
		}
		if n, _ := new(big.Int).SetString(word, 10); !n.IsInt64() || n.Int64() < -1<<31 || n.Int64() >= 1<<31 {
			return api.ErrRange
		}
	}
	if len(words) <= count {
		return api.ErrForm
	}
	return api.OK
}

// TestP145Texts: lists, and lists with something wrong, against the other look.
func TestP145Texts(t *testing.T) {
	r := rand.New(rand.NewSource(1450))
	pieces := []string{" ", "\n", "0", "-", "9", "a", "", "99999999999", "2147483648", "set", "halt 0\n", "-2147483648", "\x00"}
	seen := map[api.Errno]int{}
	for range 20000 {
		s, _ := code.List(several(r, 1+r.Intn(4)))
		for range r.Intn(3) {
			at := r.Intn(len(s) + 1)
			to := min(len(s), at+r.Intn(3))
			s = s[:at] + pieces[r.Intn(len(pieces))] + s[to:]
		}
		l, line, e := code.Parse(s)
		seen[e]++
		if e == api.OK {
			if again, err := code.List(l); again != s || err != api.OK || line != 0 {
				t.Fatalf("%q %q", s, again)
			}
		}
		wantLine, want := 0, api.OK
		lines := strings.SplitAfter(s, "\n")
		for k, text := range lines {
			if text == "" && k == len(lines)-1 {
				break
			}
			body, ended := strings.CutSuffix(text, "\n")
			if want = lineError(body); want == api.OK && !ended {
				want = api.ErrShort
			}
			if want != api.OK {
				wantLine = k + 1
				break
			}
		}
		if wantLine > 0 && (e != want || line != wantLine) || wantLine == 0 && line != 0 {
			t.Fatalf("%q: %d %v, want %d %v", s, line, e, wantLine, want)
		}
		if wantLine == 0 && e != api.OK && e != api.ErrForm && e != api.ErrRange {
			t.Fatalf("%q: %v", s, e)
		}
	}
	for _, e := range []api.Errno{api.OK, api.ErrForm, api.ErrName, api.ErrRange, api.ErrShort} {
		if seen[e] < 20 {
			t.Error(e, strconv.Itoa(seen[e]))
		}
	}
}
