package octet_test

import (
	"bytes"
	"math"
	"math/bits"
	"testing"

	"baize/api"
	"baize/octet"
)

// tops are nine bytes that all say that another one follows.
const tops = "\xff\xff\xff\xff\xff\xff\xff\xff\xff"

// numbers are the edges of all sizes, and some between.
func numbers() []uint64 {
	l := []uint64{0, 1, 2, 5, 300, 0x0123456789abcdef}
	for shift := range 64 {
		l = append(l, 1<<shift-1, 1<<shift, 1<<shift+1, math.MaxUint64>>shift)
	}
	return l
}

// TestExamples: the chapter's.
func TestExamples(t *testing.T) {
	if got := octet.PutNum(nil, 300); !bytes.Equal(got, []byte{172, 2}) {
		t.Errorf("PutNum: %v", got)
	}
	if got := octet.PutInt([]byte{7}, -3); !bytes.Equal(got, []byte{7, 5}) {
		t.Errorf("PutInt: %v", got)
	}
	if got := octet.PutText(nil, "ab"); !bytes.Equal(got, []byte{2, 97, 98}) {
		t.Errorf("PutText: %v", got)
	}
}

// TestP11Numbers: a number's bytes, and those of one with a sign.
func TestP11Numbers(t *testing.T) {
	for _, x := range []struct {
		n    uint64
		want string
	}{
		{0, "\x00"}, {1, "\x01"}, {127, "\x7f"}, {128, "\x80\x01"}, {129, "\x81\x01"}, {1<<14 - 1, "\xff\x7f"}, {1 << 14, "\x80\x80\x01"},
		{1<<63 - 1, "\xff\xff\xff\xff\xff\xff\xff\xff\x7f"}, {1 << 63, "\x80\x80\x80\x80\x80\x80\x80\x80\x80\x01"}, {math.MaxUint64, tops + "\x01"},
	} {
		if got := octet.PutNum([]byte("ab"), x.n); string(got) != "ab"+x.want {
			t.Errorf("PutNum(ab, %d): %q", x.n, got)
		}
	}
	for _, x := range []struct {
		n    int64
		want string
	}{
		{0, "\x00"}, {-1, "\x01"}, {1, "\x02"}, {-2, "\x03"}, {63, "\x7e"}, {-64, "\x7f"}, {64, "\x80\x01"}, {-65, "\x81\x01"},
		{math.MaxInt64, "\xfe\xff\xff\xff\xff\xff\xff\xff\xff\x01"}, {math.MinInt64, tops + "\x01"},
	} {
		if got := octet.PutInt([]byte("ab"), x.n); string(got) != "ab"+x.want {
			t.Errorf("PutInt(ab, %d): %q", x.n, got)
		}
	}
}

// TestP11Bytes: how many they are, and they.
func TestP11Bytes(t *testing.T) {
	long := bytes.Repeat([]byte{9, 0, 255}, 100)
	for _, x := range []struct{ s, want string }{
		{"", "\x00"}, {"a", "\x01a"}, {"\x00\xff", "\x02\x00\xff"}, {string(long[:127]), "\x7f" + string(long[:127])}, {string(long), "\xac\x02" + string(long)},
	} {
		if got := octet.PutBytes([]byte("q"), []byte(x.s)); string(got) != "q"+x.want {
			t.Errorf("PutBytes(q, %q): %q", x.s, got)
		}
		if got := octet.PutText([]byte("q"), x.s); string(got) != "q"+x.want {
			t.Errorf("PutText(q, %q): %q", x.s, got)
		}
	}
	if got := octet.PutBytes(nil, nil); string(got) != "\x00" {
		t.Errorf("PutBytes(nil, nil): %q", got)
	}
	if got := octet.PutBytes([]byte{}, []byte{}); string(got) != "\x00" {
		t.Errorf("PutBytes of empty ones: %q", got)
	}
}

// TestP11NewMemory: what is handed in stays, though there be room behind it, and isn't shared.
func TestP11NewMemory(t *testing.T) {
	puts := map[string]func(b []byte) []byte{
		"PutNum":   func(b []byte) []byte { return octet.PutNum(b, 300) },
		"PutInt":   func(b []byte) []byte { return octet.PutInt(b, -300) },
		"PutBytes": func(b []byte) []byte { return octet.PutBytes(b, b) },
		"PutText":  func(b []byte) []byte { return octet.PutText(b, "text") },
	}
	for name, put := range puts {
		room := bytes.Repeat([]byte{77}, 40)
		first := put(room[:3])
		second := put(room[:3])
		if !bytes.Equal(room, bytes.Repeat([]byte{77}, 40)) {
			t.Errorf("%s wrote into the room behind its argument: %v", name, room)
		}
		keep := bytes.Clone(second)
		for i := range first {
			first[i] = 1
		}
		room[0] = 2
		if !bytes.Equal(second, keep) {
			t.Errorf("%s shares memory: %v", name, second)
		}
		if room[1] != 77 {
			t.Errorf("%s's answer is its argument's memory", name)
		}
	}
}

// numCase: what a read of a number has to answer.
type numCase struct {
	b    string
	most uint64
	n    uint64
	err  api.Errno
	left int
}

// TestP12Num: numbers, and each error, at its edges.
func TestP12Num(t *testing.T) {
	const all = math.MaxUint64
	for _, x := range []numCase{
		{"\x00", 0, 0, api.OK, 0}, {"\x05\x06", 5, 5, api.OK, 1}, {"\xac\x02z", all, 300, api.OK, 1},
		{tops + "\x01", all, all, api.OK, 0}, {tops + "\x01\x07", all, all, api.OK, 1},
		{"", all, 0, api.ErrShort, 0}, {"\x80", 0, 0, api.ErrShort, 1}, {"\x81", 0, 0, api.ErrShort, 1}, {tops, 0, 0, api.ErrShort, 9}, {tops[:8], all, 0, api.ErrShort, 8},
		{tops + "\x80", all, 0, api.ErrForm, 10}, {tops + "\x81", all, 0, api.ErrForm, 10}, {tops + "\xff\x00", all, 0, api.ErrForm, 11}, {tops + tops, 0, 0, api.ErrForm, 18},
		{"\x80\x00", all, 0, api.ErrForm, 2}, {"\x81\x00\x05", all, 0, api.ErrForm, 3}, {"\xff\xff\x00", 0, 0, api.ErrForm, 3}, {tops + "\x00", all, 0, api.ErrForm, 10},
		{tops + "\x02", all, 0, api.ErrForm, 10}, {tops + "\x7f", all, 0, api.ErrForm, 10}, {tops + "\x03", 0, 0, api.ErrForm, 10},
		{"\x05", 4, 0, api.ErrRange, 1}, {"\xac\x02", 299, 0, api.ErrRange, 2}, {"\xac\x02", 300, 300, api.OK, 0}, {tops + "\x01", all - 1, 0, api.ErrRange, 10}, {"\x01", 0, 0, api.ErrRange, 1},
	} {
		r := octet.NewReader([]byte(x.b))
		if n := r.Num(x.most); n != x.n || r.Err() != x.err || r.Left() != x.left {
			t.Errorf("%q, most %d: %d, %s, %d left; want %d, %s, %d left", x.b, x.most, n, r.Err().Word(), r.Left(), x.n, x.err.Word(), x.left)
		}
	}
}

// TestP12Int: numbers with a sign, of any size, and Num's errors.
func TestP12Int(t *testing.T) {
	for _, x := range []struct {
		b    string
		n    int64
		err  api.Errno
		left int
	}{
		{"\x00", 0, api.OK, 0}, {"\x05\x09", -3, api.OK, 1}, {"\x06", 3, api.OK, 0}, {"\xfe\xff\xff\xff\xff\xff\xff\xff\xff\x01", math.MaxInt64, api.OK, 0}, {tops + "\x01", math.MinInt64, api.OK, 0},
		{"", 0, api.ErrShort, 0}, {tops, 0, api.ErrShort, 9}, {"\x83\x00", 0, api.ErrForm, 2}, {tops + "\x02", 0, api.ErrForm, 10}, {tops + "\xff", 0, api.ErrForm, 10},
	} {
		r := octet.NewReader([]byte(x.b))
		if n := r.Int(); n != x.n || r.Err() != x.err || r.Left() != x.left {
			t.Errorf("%q: %d, %s, %d left; want %d, %s, %d left", x.b, n, r.Err().Word(), r.Left(), x.n, x.err.Word(), x.left)
		}
	}
}

// TestP12Bytes: bytes and texts, and each error, in the order in which they count.
func TestP12Bytes(t *testing.T) {
	for _, x := range []struct {
		b    string
		most int
		s    string
		err  api.Errno
		left int
	}{
		{"\x00", 0, "", api.OK, 0}, {"\x00z", -1, "", api.OK, 1}, {"\x00z", math.MinInt, "", api.OK, 1}, {"\x02abc", 2, "ab", api.OK, 1}, {"\x02\x00\xff", math.MaxInt, "\x00\xff", api.OK, 0},
		{"", 5, "", api.ErrShort, 0}, {"\x81", -1, "", api.ErrShort, 1}, {"\x82\x00ab", 5, "", api.ErrForm, 4}, {tops + "\x02ab", -1, "", api.ErrForm, 12},
		{"\x02ab", 1, "", api.ErrRange, 3}, {"\x01a", 0, "", api.ErrRange, 2}, {"\x01a", -1, "", api.ErrRange, 2}, {"\x09ab", 8, "", api.ErrRange, 3}, {tops + "\x01a", math.MaxInt, "", api.ErrRange, 11}, {"\x80\x80\x80\x80\x80\x80\x80\x80\x80\x01", math.MaxInt, "", api.ErrRange, 10},
		{"\x03ab", 3, "", api.ErrShort, 3}, {"\x01", 1, "", api.ErrShort, 1}, {"\xff\xff\xff\xff\xff\xff\xff\xff\x7fa", math.MaxInt, "", api.ErrShort, 10},
	} {
		r, s := octet.NewReader([]byte(x.b)), octet.NewReader([]byte(x.b))
		if got := r.Bytes(x.most); string(got) != x.s || r.Err() != x.err || r.Left() != x.left {
			t.Errorf("Bytes of %q, most %d: %q, %s, %d left; want %q, %s, %d left", x.b, x.most, got, r.Err().Word(), r.Left(), x.s, x.err.Word(), x.left)
		}
		if got := s.Text(x.most); got != x.s || s.Err() != x.err || s.Left() != x.left {
			t.Errorf("Text of %q, most %d: %q, %s, %d left; want %q, %s, %d left", x.b, x.most, got, s.Err().Word(), s.Left(), x.s, x.err.Word(), x.left)
		}
	}
}

// TestP12OwnCopy: a reader keeps nothing that it was given, and gives out nothing that it keeps.
func TestP12OwnCopy(t *testing.T) {
	b := []byte("\x02ab\x02cd")
	r := octet.NewReader(b)
	for i := range b {
		b[i] = 0
	}
	first := r.Bytes(2)
	if string(first) != "ab" {
		t.Fatalf("the reader reads its argument's memory: %q", first)
	}
	_ = append(first, "zzzz"...)
	first[0] = 'x'
	if got := r.Text(2); got != "cd" || r.End() != api.OK {
		t.Errorf("what was answered is the reader's memory: %q", got)
	}
}

// TestP12Stays: behind an error each read answers nothing, the place and the error stay.
func TestP12Stays(t *testing.T) {
	fails := []struct {
		b    string
		fail func(r *octet.Reader)
		err  api.Errno
	}{
		{"\x01\x05\x01\x01a", func(r *octet.Reader) { r.Num(4) }, api.ErrRange},
		{"\x01\x80\x00\x01a", func(r *octet.Reader) { r.Int() }, api.ErrForm},
		{"\x01\x02\x01\x01a", func(r *octet.Reader) { r.Bytes(1) }, api.ErrRange},
		{"\x01\x07\x01\x01a", func(r *octet.Reader) { r.Text(8) }, api.ErrShort},
	}
	for i, x := range fails {
		r := octet.NewReader([]byte(x.b))
		if r.Num(1) != 1 || r.Err() != api.OK {
			t.Fatal(i, "the first number")
		}
		x.fail(r)
		for range 2 {
			if r.Num(math.MaxUint64) != 0 || r.Int() != 0 || len(r.Bytes(9)) != 0 || r.Text(9) != "" {
				t.Errorf("%d: a read behind an error answers something", i)
			}
			if r.Left() != 4 || r.Err() != x.err || r.End() != x.err {
				t.Errorf("%d: %d left, %s, %s", i, r.Left(), r.Err().Word(), r.End().Word())
			}
		}
	}
}

// TestP13: what is left, and the errors, which move nothing.
func TestP13(t *testing.T) {
	r := octet.NewReader([]byte{1, 2, 200, 1})
	for want := 4; want > 1; want-- {
		for range 2 {
			if r.Left() != want || r.Err() != api.OK || r.End() != api.ErrLong {
				t.Errorf("%d left, %s, %s; want %d", r.Left(), r.Err().Word(), r.End().Word(), want)
			}
		}
		r.Num(math.MaxUint64)
	}
	for range 2 {
		if r.Left() != 0 || r.Err() != api.OK || r.End() != api.OK {
			t.Errorf("at the end: %d left, %s, %s", r.Left(), r.Err().Word(), r.End().Word())
		}
	}
	if r.Num(0); r.Err() != api.ErrShort || r.End() != api.ErrShort || r.Left() != 0 {
		t.Errorf("behind the end: %s, %s", r.Err().Word(), r.End().Word())
	}
	if r := octet.NewReader(nil); r.Left() != 0 || r.Err() != api.OK || r.End() != api.OK {
		t.Error("a reader of nothing")
	}
}

// TestP14Back: what is put is read as it was.
func TestP14Back(t *testing.T) {
	var b []byte
	for _, n := range numbers() {
		one := octet.PutNum(nil, n)
		if want := max(1, (bits.Len64(n)+6)/7); len(one) != want {
			t.Errorf("%d has %d bytes, want %d", n, len(one), want)
		}
		b = octet.PutNum(b, n)
		b = octet.PutInt(b, int64(n))
		b = octet.PutBytes(b, one)
		b = octet.PutText(b, string(one))
	}
	r := octet.NewReader(b)
	for _, n := range numbers() {
		one := octet.PutNum(nil, n)
		if r.Num(n) != n || r.Int() != int64(n) || !bytes.Equal(r.Bytes(len(one)), one) || r.Text(len(one)) != string(one) || r.Err() != api.OK {
			t.Fatalf("%d isn't read as it was: %s", n, r.Err().Word())
		}
	}
	if r.End() != api.OK {
		t.Errorf("something is left: %s", r.End().Word())
	}
}

// TestP14OneWay: whatever bytes are read as a number are just those that the number is put as.
func TestP14OneWay(t *testing.T) {
	check := func(b []byte) {
		r := octet.NewReader(b)
		n := r.Num(math.MaxUint64)
		if read := b[:len(b)-r.Left()]; r.Err() == api.OK && !bytes.Equal(octet.PutNum(nil, n), read) {
			t.Errorf("%v is read as %d, which is put as %v", read, n, octet.PutNum(nil, n))
		}
		s := octet.NewReader(b)
		i := s.Int()
		if s.Err() != r.Err() || s.Left() != r.Left() {
			t.Errorf("%v: Int %s, Num %s", b, s.Err().Word(), r.Err().Word())
		}
		if read := b[:len(b)-s.Left()]; s.Err() == api.OK && !bytes.Equal(octet.PutInt(nil, i), read) {
			t.Errorf("%v is read as %d, which is put as %v", read, i, octet.PutInt(nil, i))
		}
	}
	some := []byte{0, 1, 2, 127, 128, 129, 255}
	for x := range 1 << 16 {
		check([]byte{byte(x), byte(x >> 8)})
	}
	for _, x := range some {
		for _, y := range some {
			for _, z := range some {
				check([]byte{x, y, z})
				check(append([]byte(tops[:7]), x, y, z))
				check(append([]byte(tops[:8]), x, y, z))
			}
		}
	}
}

// TestP14Nil: a nil reader has nothing, and says so.
func TestP14Nil(t *testing.T) {
	var r *octet.Reader
	if r.Num(5) != 0 || r.Int() != 0 || len(r.Bytes(5)) != 0 || r.Text(5) != "" || r.Left() != 0 {
		t.Error("a nil reader answers something")
	}
	if r.Err() != api.ErrArg || r.End() != api.ErrArg {
		t.Errorf("a nil reader's errors: %s, %s", r.Err().Word(), r.End().Word())
	}
}
