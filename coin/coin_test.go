package coin_test

import (
	"math"
	"slices"
	"testing"

	"baize/api"
	"baize/coin"
)

// wrongs are numbers that are no amounts.
func wrongs() []int {
	return []int{-1, coin.Most + 1, math.MinInt, math.MaxInt}
}

// TestExamples: the chapter's.
func TestExamples(t *testing.T) {
	split(t, 10, []int{1, 1, 1}, []int{4, 3, 3}, api.OK)
	split(t, 7, []int{0, 2, 1}, []int{0, 5, 2}, api.OK)
	p, err := coin.NewPot(10, 2)
	if err != api.OK || p.Pay(1, 7) != 7 || p.Pay(5, 9) != 3 {
		t.Fatal("NewPot(10, 2)", err.Word())
	}
	if got := p.Rest(1); !slices.Equal(got, []int{3, 7}) {
		t.Errorf("Rest: %v", got)
	}
}

// TestP31Right: what an amount is.
func TestP31Right(t *testing.T) {
	if coin.Most != 1<<50 || coin.MostSeats != 8 {
		t.Error("the limits")
	}
	for _, n := range []int{0, 1, 1 << 49, coin.Most} {
		if !coin.Right(n) {
			t.Errorf("%d is an amount", n)
		}
	}
	for _, n := range wrongs() {
		if coin.Right(n) {
			t.Errorf("%d is no amount", n)
		}
	}
}

// TestP31AddSub: amounts together, and less another one.
func TestP31AddSub(t *testing.T) {
	for _, x := range []struct {
		a, b, sum int
		add       api.Errno
		less      int
		sub       api.Errno
	}{
		{0, 0, 0, api.OK, 0, api.OK}, {5, 3, 8, api.OK, 2, api.OK}, {3, 3, 6, api.OK, 0, api.OK}, {3, 4, 7, api.OK, 0, api.ErrFunds}, {0, 1, 1, api.OK, 0, api.ErrFunds},
		{coin.Most, 0, coin.Most, api.OK, coin.Most, api.OK}, {0, coin.Most, coin.Most, api.OK, 0, api.ErrFunds}, {coin.Most - 1, 1, coin.Most, api.OK, coin.Most - 2, api.OK},
		{coin.Most, 1, 0, api.ErrRange, coin.Most - 1, api.OK}, {coin.Most, coin.Most, 0, api.ErrRange, 0, api.OK},
	} {
		if n, err := coin.Add(x.a, x.b); n != x.sum || err != x.add {
			t.Errorf("Add(%d, %d): %d, %s", x.a, x.b, n, err.Word())
		}
		if n, err := coin.Sub(x.a, x.b); n != x.less || err != x.sub {
			t.Errorf("Sub(%d, %d): %d, %s", x.a, x.b, n, err.Word())
		}
	}
	for _, wrong := range wrongs() {
		for _, other := range append(wrongs(), 0, 1, coin.Most) {
			for _, x := range [][2]int{{wrong, other}, {other, wrong}} {
				if n, err := coin.Add(x[0], x[1]); n != 0 || err != api.ErrRange {
					t.Errorf("Add(%d, %d): %d, %s", x[0], x[1], n, err.Word())
				}
				if n, err := coin.Sub(x[0], x[1]); n != 0 || err != api.ErrRange {
					t.Errorf("Sub(%d, %d): %d, %s", x[0], x[1], n, err.Word())
				}
			}
		}
	}
}

// TestP31Sum: all together, of which none, and no beginning, may be beyond.
func TestP31Sum(t *testing.T) {
	for _, x := range []struct {
		l    []int
		want int
		err  api.Errno
	}{
		{nil, 0, api.OK}, {[]int{}, 0, api.OK}, {[]int{7}, 7, api.OK}, {[]int{1, 2, 3}, 6, api.OK}, {[]int{0, coin.Most, 0}, coin.Most, api.OK}, {[]int{coin.Most - 3, 1, 2}, coin.Most, api.OK},
		{[]int{coin.Most, 1}, 0, api.ErrRange}, {[]int{coin.Most - 3, 2, 2}, 0, api.ErrRange}, {[]int{coin.Most, 1, -1}, 0, api.ErrRange}, {[]int{5, -1}, 0, api.ErrRange},
		{[]int{-1}, 0, api.ErrRange}, {[]int{coin.Most + 1}, 0, api.ErrRange}, {[]int{math.MaxInt, math.MaxInt, 2}, 0, api.ErrRange}, {[]int{1, math.MinInt, math.MinInt}, 0, api.ErrRange},
	} {
		if n, err := coin.Sum(x.l); n != x.want || err != x.err {
			t.Errorf("Sum(%v): %d, %s", x.l, n, err.Word())
		}
	}
	many := slices.Repeat([]int{coin.Most}, 1<<14) // together they would be 0, if an int went round
	if n, err := coin.Sum(many); n != 0 || err != api.ErrRange {
		t.Errorf("Sum of many: %d, %s", n, err.Word())
	}
}

// split holds what Split answers against what it has to.
func split(t *testing.T, total int, weights, want []int, err api.Errno) {
	t.Helper()
	before := slices.Clone(weights)
	got, e := coin.Split(total, weights)
	if !slices.Equal(got, want) || e != err {
		t.Errorf("Split(%d, %v): %v, %s; want %v, %s", total, weights, got, e.Word(), want, err.Word())
	}
	if !slices.Equal(weights, before) {
		t.Errorf("Split changed its weights %v to %v", before, weights)
	}
}

// TestP32: parts by weights.
func TestP32(t *testing.T) {
	split(t, 0, []int{1, 2}, []int{0, 0}, api.OK)
	split(t, 1, []int{1}, []int{1}, api.OK)
	split(t, 8, []int{3, 0, 2}, []int{5, 0, 3}, api.OK)
	split(t, 2, []int{0, 1, 0, 1, 1}, []int{0, 1, 0, 1, 0}, api.OK)
	split(t, 7, []int{1, 1, 1, 1, 1, 1, 1, 1}, []int{1, 1, 1, 1, 1, 1, 1, 0}, api.OK)
	split(t, 5, []int{1024, 0}, []int{5, 0}, api.OK)
	split(t, 5, []int{0, 0, 0, 0, 0, 0, 0, 1}, []int{0, 0, 0, 0, 0, 0, 0, 5}, api.OK)
	split(t, coin.Most, []int{1024, 1024}, []int{1 << 49, 1 << 49}, api.OK)
	split(t, coin.Most, []int{1, 1, 1}, []int{375299968947542, 375299968947541, 375299968947541}, api.OK)
	split(t, coin.Most-1, []int{1024, 1}, []int{1124801467909119, 1098438933504}, api.OK)
}

// TestP32Wrong: each error, and which of several comes first.
func TestP32Wrong(t *testing.T) {
	nine := make([]int, 9)
	for _, total := range wrongs() {
		split(t, total, []int{1, 1}, nil, api.ErrRange)
		split(t, total, nil, nil, api.ErrRange)
		split(t, total, []int{0}, nil, api.ErrRange)
	}
	split(t, 5, nil, nil, api.ErrArg)
	split(t, 5, []int{}, nil, api.ErrArg)
	split(t, 5, nine, nil, api.ErrArg)
	split(t, 5, []int{1, 1, 1, 1, 1, 1, 1, 1, -1}, nil, api.ErrArg)
	for _, w := range []int{-1, 1025, math.MinInt, math.MaxInt} {
		split(t, 5, []int{w}, nil, api.ErrRange)
		split(t, 5, []int{1, 0, w}, nil, api.ErrRange)
		split(t, 5, []int{0, w}, nil, api.ErrRange)
		split(t, 5, []int{w, -w}, nil, api.ErrRange)
	}
	split(t, 5, []int{0}, nil, api.ErrArg)
	split(t, 0, []int{0, 0, 0}, nil, api.ErrArg)
}

// TestP35Split: the parts are the total, and none differs from its share by more than 1.
func TestP35Split(t *testing.T) {
	weights := [][]int{{1}, {1, 2}, {0, 1024, 3}, {5, 0, 0, 7, 1}, {1024, 1023, 1022, 1021, 1020, 1019, 1018, 1017}, {1, 0, 1, 0, 1, 0, 1, 0}}
	for _, total := range []int{0, 1, 2, 3, 10, 99, 1000, 1<<40 + 7, coin.Most - 1, coin.Most} {
		for _, l := range weights {
			parts, err := coin.Split(total, l)
			all := 0
			for _, w := range l {
				all += w
			}
			sum, _ := coin.Sum(parts)
			if err != api.OK || len(parts) != len(l) || sum != total {
				t.Fatalf("Split(%d, %v): %v, %s", total, l, parts, err.Word())
			}
			for i, w := range l {
				if low := total * w / all; parts[i] < low || parts[i] > low+1 || w == 0 && parts[i] != 0 || parts[i]*all-total*w > all {
					t.Errorf("Split(%d, %v): part %d is %d", total, l, i, parts[i])
				}
			}
		}
	}
}
