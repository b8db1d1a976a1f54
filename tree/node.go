package tree

import (
	"strconv"

	"baize/hash"
)

// lowestNode gives the node of a leaf.
func lowestNode(leaf hash.Digest) hash.Digest {
	return hash.Word(leaf, "leaf")
}

// noLeaf gives the lowest level's node of a place behind the last leaf.
func noLeaf() hash.Digest {
	return hash.Word(hash.Digest{}, "none")
}

// rootOf gives the root below which the highest node stands.
func rootOf(highest hash.Digest, height int) hash.Digest {
	return hash.Word(highest, "root"+strconv.Itoa(height))
}

// lowest gives the lowest level's nodes of leaves, with room for one more.
func lowest(l []hash.Digest) []hash.Digest {
	level := make([]hash.Digest, len(l), len(l)+1)
	for i, leaf := range l {
		level[i] = lowestNode(leaf)
	}
	return level
}

// above gives the nodes above a level of pairs, with room for one more.
func above(level []hash.Digest) []hash.Digest {
	pairs := len(level) / 2
	next := make([]hash.Digest, pairs, pairs+1)
	for i := range next {
		next[i] = hash.Two(level[2*i], level[2*i+1])
	}
	return next
}

// climb gives the root to which a leaf of this place comes with its path, if
// there is one.
func climb(i int, leaf hash.Digest, path []hash.Digest) (hash.Digest, bool) {
	height := len(path)
	if height > mostHeight || i < 0 || i >= 1<<height {
		return hash.Digest{}, false
	}
	node := lowestNode(leaf)
	for h := range height {
		if i>>h&1 == 0 {
			node = hash.Two(node, path[h])
		} else {
			node = hash.Two(path[h], node)
		}
	}
	return rootOf(node, height), true
}
