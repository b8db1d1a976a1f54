package tree_test

import (
	"math"
	"slices"
	"testing"

	"baize/api"
	"baize/hash"
	"baize/tree"
)

// leaves gives so many that are unlike.
func leaves(n int) []hash.Digest {
	l := make([]hash.Digest, n)
	for i := range l {
		l[i] = hash.One(hash.FromNum(uint64(i)))
	}
	return l
}

// of gives the tree of so many leaves.
func of(t *testing.T, n int) *tree.Tree {
	t.Helper()
	made, err := tree.New(leaves(n))
	if made == nil || err != api.OK {
		t.Fatalf("New of %d leaves: %s", n, err.Word())
	}
	return made
}

// full gives all levels of leaves, from the lowest one on, as the chapter's
// words tell them: with each place behind the last leaf.
func full(l []hash.Digest) [][]hash.Digest {
	height := 0
	for 1<<height < len(l) {
		height++
	}
	low := make([]hash.Digest, 1<<height)
	for k := range low {
		if k < len(l) {
			low[k] = hash.Word(l[k], "leaf")
		} else {
			low[k] = hash.Word(hash.Digest{}, "none")
		}
	}
	levels := [][]hash.Digest{low}
	for len(low) > 1 {
		next := make([]hash.Digest, len(low)/2)
		for k := range next {
			next[k] = hash.Two(low[2*k], low[2*k+1])
		}
		low = next
		levels = append(levels, low)
	}
	return levels
}

// fullRoot gives the root below which such levels stand.
func fullRoot(levels [][]hash.Digest) hash.Digest {
	words := []string{"root0", "root1", "root2", "root3", "root4", "root5", "root6", "root7", "root8", "root9", "root10", "root11", "root12"}
	height := len(levels) - 1
	return hash.Word(levels[height][0], words[height])
}

// fullPath gives a place's path in such levels.
func fullPath(levels [][]hash.Digest, i int) []hash.Digest {
	var path []hash.Digest
	for _, level := range levels[:len(levels)-1] {
		if i%2 == 0 {
			path = append(path, level[i+1])
		} else {
			path = append(path, level[i-1])
		}
		i /= 2
	}
	return path
}

// counts are how many leaves there may be, at all edges and between.
func counts() []int {
	var l []int
	for n := 1; n <= 35; n++ {
		l = append(l, n)
	}
	return append(l, 63, 64, 65, 100, 127, 128, 129, 1000, 1024, 1025, 2047, 2048, 2049, 4095, 4096)
}

// places are some of so many leaves.
func places(n int) []int {
	l := []int{0, n - 1}
	for _, i := range []int{1, 2, 3, n / 3, n / 2, n - 2} {
		if i > 0 && i < n-1 {
			l = append(l, i)
		}
	}
	return l
}

// TestExample: the chapter's.
func TestExample(t *testing.T) {
	for _, leaf := range []hash.Digest{{}, hash.FromNum(261), hash.FromNum(math.MaxUint64)} {
		l := []hash.Digest{leaf}
		root, err := tree.Root(l)
		if err != api.OK || root != hash.Word(hash.Word(leaf, "leaf"), "root0") {
			t.Errorf("the root of one leaf is %x, %s", root, err.Word())
		}
		path, err := tree.Path(l, 0)
		if err != api.OK || len(path) != 0 || tree.Height(1) != 0 {
			t.Errorf("the path of one leaf is %x, %s", path, err.Word())
		}
	}
}

// TestP41Height: at each edge, and beyond them.
func TestP41Height(t *testing.T) {
	for _, x := range [][2]int{
		{1, 0}, {2, 1}, {3, 2}, {4, 2}, {5, 3}, {8, 3}, {9, 4}, {16, 4}, {17, 5}, {1024, 10}, {1025, 11}, {2048, 11}, {2049, 12}, {4095, 12}, {4096, 12},
		{0, -1}, {-1, -1}, {4097, -1}, {1 << 13, -1}, {math.MinInt, -1}, {math.MaxInt, -1},
	} {
		if got := tree.Height(x[0]); got != x[1] {
			t.Errorf("Height(%d): %d, want %d", x[0], got, x[1])
		}
	}
}

// TestP41Known: roots and paths that another program reckoned, from the chapter's words.
func TestP41Known(t *testing.T) {
	for _, x := range []struct {
		n    int
		want uint64
	}{
		{1, 0x7200a0f5e9603f50}, {2, 0x1c9fd7959ef283a4}, {3, 0x64f0a7fa0da87255}, {4, 0x46769e5a0eb00b02}, {5, 0xa13a319487710897}, {6, 0xbd0504e7a9c72991}, {7, 0x1a5b6b6e67cc9a1f},
		{8, 0x7dbdae6e92bcf71b}, {9, 0x6a0c1eafef27f93c}, {100, 0x7fd243eaa26a3a74}, {1025, 0x95687f7e4ac92859}, {4095, 0x121d256bcd68a12e}, {4096, 0xd5521bf5cc08d72c},
	} {
		if root, err := tree.Root(leaves(x.n)); err != api.OK || root != hash.FromNum(x.want) {
			t.Errorf("Root of %d leaves: %#x, %s; want %#x", x.n, hash.Num(root), err.Word(), x.want)
		}
	}
	for _, x := range []struct {
		n, i int
		want [3]uint64
	}{
		{5, 0, [3]uint64{0xf2e45a228a6dfcab, 0xe8f73f52bfd7c7f0, 0x23a7d112058bf0ed}},
		{5, 3, [3]uint64{0xa35a0e3de055b302, 0xa1578c9532a15f99, 0x23a7d112058bf0ed}},
		{5, 4, [3]uint64{0x451d7e0799c80a88, 0xda5136310dc8c44a, 0x87489b148b210f4f}},
		{6, 4, [3]uint64{0x0643dfef18025edf, 0xda5136310dc8c44a, 0x87489b148b210f4f}},
	} {
		path, err := tree.Path(leaves(x.n), x.i)
		if err != api.OK || len(path) != len(x.want) {
			t.Fatalf("Path of %d of %d leaves: %x, %s", x.i, x.n, path, err.Word())
		}
		for h, want := range x.want {
			if path[h] != hash.FromNum(want) {
				t.Errorf("Path of %d of %d leaves: %#x on level %d, want %#x", x.i, x.n, hash.Num(path[h]), h, want)
			}
		}
	}
}

// TestP41Full: each root and path is the one of all levels with all of their places.
func TestP41Full(t *testing.T) {
	for _, n := range counts() {
		l := leaves(n)
		levels := full(l)
		made := of(t, n)
		if root, err := tree.Root(l); err != api.OK || root != fullRoot(levels) || made.Root() != root {
			t.Errorf("Root of %d leaves: %x, %s; of the tree %x", n, root, err.Word(), made.Root())
		}
		for i := range n {
			want := fullPath(levels, i)
			if path, err := made.Path(i); err != api.OK || !slices.Equal(path, want) {
				t.Errorf("a tree of %d leaves: Path(%d): %x, %s", n, i, path, err.Word())
			}
		}
		for _, i := range places(n) {
			if path, err := tree.Path(l, i); err != api.OK || !slices.Equal(path, fullPath(levels, i)) {
				t.Errorf("Path of %d of %d leaves: %x, %s", i, n, path, err.Word())
			}
		}
	}
}

// TestP41Wrong: counts that aren't, then places that aren't.
func TestP41Wrong(t *testing.T) {
	for _, l := range [][]hash.Digest{nil, {}, leaves(4097), leaves(1 << 13)} {
		if root, err := tree.Root(l); root != (hash.Digest{}) || err != api.ErrRange {
			t.Errorf("Root of %d leaves: %x, %s", len(l), root, err.Word())
		}
		for _, i := range []int{0, -1, 5000, math.MinInt, math.MaxInt} {
			if path, err := tree.Path(l, i); len(path) != 0 || err != api.ErrRange {
				t.Errorf("Path of %d of %d leaves: %x, %s", i, len(l), path, err.Word())
			}
		}
		if made, err := tree.New(l); made != nil || err != api.ErrRange {
			t.Errorf("New of %d leaves: %v, %s", len(l), made != nil, err.Word())
		}
	}
	for _, n := range []int{1, 2, 3, 5, 4096} {
		for _, i := range []int{-1, n, n + 1, 5000, math.MinInt, math.MaxInt} {
			if path, err := tree.Path(leaves(n), i); len(path) != 0 || err != api.ErrNone {
				t.Errorf("Path of %d of %d leaves: %x, %s", i, n, path, err.Word())
			}
		}
	}
}

// TestP42With: the root with these others beside the leaf, wherever they are from.
func TestP42With(t *testing.T) {
	leaf := hash.FromNum(9)
	others := leaves(12)
	low := hash.Word(leaf, "leaf")
	for i, want := range []hash.Digest{
		hash.Two(hash.Two(low, others[0]), others[1]), hash.Two(hash.Two(others[0], low), others[1]),
		hash.Two(others[1], hash.Two(low, others[0])), hash.Two(others[1], hash.Two(others[0], low)),
	} {
		if got := tree.With(i, leaf, others[:2]); got != hash.Word(want, "root2") {
			t.Errorf("With(%d), of the height 2: %x", i, got)
		}
	}
	high := low
	for _, other := range others {
		high = hash.Two(other, high)
	}
	if got := tree.With(4095, leaf, others); got != hash.Word(high, "root12") {
		t.Errorf("With, of the height 12: %x", got)
	}
	for _, path := range [][]hash.Digest{nil, {}} {
		if got := tree.With(0, leaf, path); got != hash.Word(low, "root0") {
			t.Errorf("With, of the height 0: %x", got)
		}
	}
}

// TestP42None: paths that are too long, and places that aren't, have no root, so none that is the zero digest either.
func TestP42None(t *testing.T) {
	leaf := hash.FromNum(9)
	long := leaves(70)
	for _, x := range []struct{ height, i int }{
		{0, 1}, {0, -1}, {1, 2}, {1, -1}, {3, 8}, {3, 9}, {12, 4096}, {12, -1}, {12, math.MaxInt}, {5, math.MinInt}, {13, 0}, {13, 8191}, {13, -1}, {63, 0}, {64, 0}, {70, 1}, {0, math.MaxInt},
	} {
		if got := tree.With(x.i, leaf, long[:x.height]); got != (hash.Digest{}) {
			t.Errorf("With(%d), %d digests: %x", x.i, x.height, got)
		}
		if tree.Check(hash.Digest{}, x.i, leaf, long[:x.height]) {
			t.Errorf("Check(%d), %d digests: the zero digest isn't a root of it", x.i, x.height)
		}
	}
}

// TestP42Check: a leaf, its place, its path and the root belong together.
func TestP42Check(t *testing.T) {
	l := leaves(5)
	root, _ := tree.Root(l)
	path, _ := tree.Path(l, 4)
	if !tree.Check(root, 4, l[4], path) {
		t.Fatal("it isn't checked")
	}
	for i := range 8 {
		if i != 4 && tree.Check(root, i, l[4], path) {
			t.Errorf("it is checked at %d, too", i)
		}
	}
	for _, i := range []int{-1, -4, 8, 12, math.MinInt, math.MaxInt} {
		if tree.Check(root, i, l[4], path) {
			t.Errorf("it is checked at %d, too", i)
		}
	}
	for bit := range 64 {
		flip := hash.FromNum(1 << bit)
		mix := func(d hash.Digest) hash.Digest { return hash.FromNum(hash.Num(d) ^ hash.Num(flip)) }
		if tree.Check(mix(root), 4, l[4], path) || tree.Check(root, 4, mix(l[4]), path) {
			t.Errorf("it is checked with the bit %d turned", bit)
		}
		for h := range path {
			other := slices.Clone(path)
			other[h] = mix(other[h])
			if tree.Check(root, 4, l[4], other) {
				t.Errorf("it is checked with the bit %d of level %d turned", bit, h)
			}
		}
	}
	if tree.Check(root, 4, l[4], path[:2]) || tree.Check(root, 0, l[4], path[1:]) || tree.Check(root, 4, l[4], append(slices.Clone(path), hash.Digest{})) || tree.Check(root, 0, l[0], nil) || tree.Check(hash.Digest{}, 4, l[4], path) {
		t.Error("it is checked with another path, or for another root")
	}
}

// TestP43Leaf: each leaf, and no other one.
func TestP43Leaf(t *testing.T) {
	for _, n := range []int{1, 2, 3, 7, 64, 4096} {
		l := leaves(n)
		made := of(t, n)
		if made.Len() != n {
			t.Errorf("Len of %d leaves: %d", n, made.Len())
		}
		for i := range n {
			if d, ok := made.Leaf(i); !ok || d != l[i] {
				t.Errorf("%d leaves: Leaf(%d): %x, %v", n, i, d, ok)
			}
		}
		for _, i := range []int{-1, n, n + 1, 4096, math.MinInt, math.MaxInt} {
			if d, ok := made.Leaf(i); ok || d != (hash.Digest{}) {
				t.Errorf("%d leaves: Leaf(%d): %x, %v", n, i, d, ok)
			}
		}
	}
}

// TestP43Set: the tree is the one of the leaves as they are now, root and paths.
func TestP43Set(t *testing.T) {
	for _, n := range counts() {
		l := leaves(n)
		made := of(t, n)
		for round, i := range append(places(n), places(n)...) {
			l[i] = hash.FromNum(uint64(1000 + round))
			if err := made.Set(i, l[i]); err != api.OK {
				t.Fatalf("%d leaves: Set(%d): %s", n, i, err.Word())
			}
			if d, ok := made.Leaf(i); !ok || d != l[i] || made.Len() != n {
				t.Errorf("%d leaves: behind Set(%d) it is %x", n, i, d)
			}
		}
		levels := full(l)
		if made.Root() != fullRoot(levels) {
			t.Errorf("%d leaves: the root behind Set is another one", n)
		}
		for i := range n {
			if path, err := made.Path(i); err != api.OK || !slices.Equal(path, fullPath(levels, i)) {
				t.Errorf("%d leaves: Path(%d) behind Set: %x, %s", n, i, path, err.Word())
			}
		}
		if again, _ := tree.New(l); !made.Same(again) || !again.Same(made) {
			t.Errorf("%d leaves: it isn't the same as a new tree of them", n)
		}
	}
}

// TestP43SetRest: every leaf, one by one, and back again.
func TestP43SetRest(t *testing.T) {
	const n = 11
	made, first := of(t, n), of(t, n)
	for i := range n {
		if made.Set(i, hash.Digest{}) != api.OK || made.Same(first) || made.Root() == first.Root() {
			t.Errorf("Set(%d) does nothing", i)
		}
	}
	if zero, _ := tree.Root(make([]hash.Digest, n)); made.Root() != zero {
		t.Error("the root of leaves that are all the zero digest")
	}
	for i, leaf := range leaves(n) {
		made.Set(i, leaf)
	}
	if made.Root() != first.Root() || !made.Same(first) {
		t.Error("back again it isn't the same")
	}
}

// TestP43Wrong: places that aren't there: nothing is changed.
func TestP43Wrong(t *testing.T) {
	for _, n := range []int{1, 2, 3, 5, 33, 4095, 4096} {
		made, first := of(t, n), of(t, n)
		for _, i := range []int{-1, -2, n, n + 1, 4096, math.MinInt, math.MaxInt} {
			if err := made.Set(i, hash.FromNum(5)); err != api.ErrNone {
				t.Errorf("%d leaves: Set(%d): %s", n, i, err.Word())
			}
			if path, err := made.Path(i); len(path) != 0 || err != api.ErrNone {
				t.Errorf("%d leaves: Path(%d): %x, %s", n, i, path, err.Word())
			}
		}
		if !made.Same(first) || made.Root() != first.Root() {
			t.Errorf("%d leaves: an error changed something", n)
		}
		for _, i := range places(n) {
			path, _ := made.Path(i)
			if want, _ := first.Path(i); !slices.Equal(path, want) {
				t.Errorf("%d leaves: an error changed the path of %d", n, i)
			}
		}
	}
}

// TestP43Clone: it is the same, and neither one tells what is done to the other one.
func TestP43Clone(t *testing.T) {
	for _, n := range []int{1, 2, 3, 6, 9, 64} {
		made := of(t, n)
		made.Set(0, hash.FromNum(7))
		c := made.Clone()
		if c == made || !c.Same(made) || !made.Same(c) || c.Root() != made.Root() || c.Len() != n {
			t.Fatalf("%d leaves: the clone is another one", n)
		}
		before := made.Root()
		paths := make([][]hash.Digest, n)
		for i := range n {
			paths[i], _ = made.Path(i)
		}
		for i := range n {
			c.Set(i, hash.FromNum(uint64(i+50)))
		}
		if made.Root() != before || c.Root() == before || c.Same(made) {
			t.Errorf("%d leaves: the clone isn't one of its own", n)
		}
		for i := range n {
			if path, _ := made.Path(i); !slices.Equal(path, paths[i]) {
				t.Errorf("%d leaves: the path of %d changed with the clone", n, i)
			}
		}
		before = c.Root()
		made.Set(n-1, hash.FromNum(8))
		if d, _ := c.Leaf(n - 1); c.Root() != before || d != hash.FromNum(uint64(n-1+50)) {
			t.Errorf("%d leaves: the clone changed with what it was made of", n)
		}
	}
}

// TestP43Same: the leaves, in order, and how many.
func TestP43Same(t *testing.T) {
	l := leaves(4)
	a, _ := tree.New(l)
	b, _ := tree.New(leaves(4))
	if !a.Same(a) || !a.Same(b) || !b.Same(a) {
		t.Error("the leaves are the same")
	}
	turned, _ := tree.New([]hash.Digest{l[0], l[2], l[1], l[3]})
	fewer, _ := tree.New(l[:3])
	more, _ := tree.New(append(leaves(4), hash.Digest{}))
	zero, _ := tree.New([]hash.Digest{l[0], l[1], l[2], {}})
	for i, o := range []*tree.Tree{turned, fewer, more, zero, nil} {
		if a.Same(o) || o.Same(a) {
			t.Errorf("%d: the leaves are others", i)
		}
	}
	if fewer.Same(zero) || fewer.Root() == zero.Root() {
		t.Error("no leaf isn't a leaf that is the zero digest")
	}
}

// TestP43SameLeaves: leaves that are unlike aren't the same, though all above them be (eight bytes are few).
func TestP43SameLeaves(t *testing.T) {
	a, b := hash.FromNum(0x8ee44fc9e35053d7), hash.FromNum(0x51f2d4ab6cd582cc)
	if hash.Word(a, "leaf") != hash.Word(b, "leaf") {
		t.Fatal("these two have one digest")
	}
	for _, n := range []int{1, 3, 8} {
		x, y := of(t, n), of(t, n)
		x.Set(n/2, a)
		y.Set(n/2, b)
		if x.Root() != y.Root() || x.Same(y) || y.Same(x) {
			t.Errorf("%d leaves: they aren't the same", n)
		}
		if y.Set(n/2, a); !x.Same(y) {
			t.Errorf("%d leaves: they are the same", n)
		}
	}
}

// TestP44: each path is checked, and tells the root with another leaf there.
func TestP44(t *testing.T) {
	for _, n := range counts() {
		l := leaves(n)
		made := of(t, n)
		root := made.Root()
		for _, i := range places(n) {
			path, err := tree.Path(l, i)
			if err != api.OK || len(path) != tree.Height(n) || !tree.Check(root, i, l[i], path) || tree.With(i, l[i], path) != root {
				t.Errorf("%d leaves: the path of %d isn't checked", n, i)
			}
			other := hash.FromNum(uint64(3 * i))
			l[i] = other
			want, _ := tree.Root(l)
			if got := tree.With(i, other, path); got != want || !tree.Check(want, i, other, path) || tree.Check(root, i, other, path) {
				t.Errorf("%d leaves: with another leaf at %d the root is %x, want %x", n, i, got, want)
			}
			l[i] = leaves(n)[i]
		}
	}
}

// TestP45Kept: what is handed in is neither kept nor changed.
func TestP45Kept(t *testing.T) {
	room := leaves(8)
	l := room[:5]
	made, _ := tree.New(l)
	root := made.Root()
	made.Set(1, hash.FromNum(1))
	made.Set(1, leaves(8)[1])
	tree.Root(l)
	path, _ := tree.Path(l, 4)
	before := slices.Clone(path)
	tree.With(4, hash.FromNum(3), path)
	tree.Check(root, 4, l[4], path)
	if !slices.Equal(room, leaves(8)) || !slices.Equal(path, before) {
		t.Error("an argument was changed")
	}
	clear(room)
	if d, _ := made.Leaf(2); d != leaves(8)[2] || made.Root() != root {
		t.Error("an argument was kept")
	}
	made.Set(0, leaves(8)[0])
	if made.Root() != root {
		t.Error("an argument was kept")
	}
}

// TestP45NewMemory: what is answered may be written over, and behind it.
func TestP45NewMemory(t *testing.T) {
	for _, n := range []int{2, 3, 9, 64} {
		made, first := of(t, n), of(t, n)
		for i := range n {
			path, _ := made.Path(i)
			_ = append(path, hash.FromNum(1))
			clear(path)
			want, _ := first.Path(i)
			if again, _ := made.Path(i); !slices.Equal(again, want) {
				t.Errorf("%d leaves: the path of %d is the tree's memory", n, i)
			}
		}
		made.Set(0, leaves(n)[0])
		if made.Root() != first.Root() {
			t.Errorf("%d leaves: a path is the tree's memory", n)
		}
	}
}

// TestP45Nil: a nil tree.
func TestP45Nil(t *testing.T) {
	var none *tree.Tree
	for _, i := range []int{0, -1, 5, math.MinInt, math.MaxInt} {
		if err := none.Set(i, hash.FromNum(1)); err != api.ErrArg {
			t.Errorf("Set(%d): %s", i, err.Word())
		}
		if path, err := none.Path(i); len(path) != 0 || err != api.ErrArg {
			t.Errorf("Path(%d): %x, %s", i, path, err.Word())
		}
		if d, ok := none.Leaf(i); ok || d != (hash.Digest{}) {
			t.Errorf("Leaf(%d): %x, %v", i, d, ok)
		}
	}
	if none.Len() != 0 || none.Root() != (hash.Digest{}) || none.Clone() != nil {
		t.Error("a nil tree has something")
	}
	if !none.Same(nil) || none.Same(of(t, 1)) || of(t, 1).Same(nil) {
		t.Error("a nil tree is the same as a nil one alone")
	}
}
