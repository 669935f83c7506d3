package paren

import (
	"math"

	"parquetry/api"
)

// node is of blocks in a row. Its places are those ahead of and behind each
// bit of theirs, so that neighbours share the one between them.
type node struct {
	sum int32 // by how much the excess changes from the first place to the last
	low int32 // the least excess, that of the first place taken off
}

const nodeBits = 64

// nothing is the node of no blocks: the least of no excess is above any.
var nothing = node{low: math.MaxInt32}

// join is the node of the blocks of a and, behind them, of b.
func join(a, b node) node {
	// A sum added to the least of nothing could wrap round.
	if b == nothing {
		return a
	}
	return node{sum: a.sum + b.sum, low: min(a.low, a.sum+b.low)}
}

// has tells whether the excess is most or less at a place of x, if it is
// excess at the edge of x that is met first on that way.
func (x node) has(way, excess, most int) bool {
	if way == back {
		excess -= int(x.sum)
	}
	return excess+int(x.low) <= most
}

// tree is nodes, each but the last ones joined of two others. They are
// numbered from 1 on: those of the x-th are the ones numbered 2x and 2x + 1.
type tree []node

// blocksFor is how many blocks n bits are, full or begun.
func blocksFor(n int) int { return (n + api.Block - 1) / api.Block }

// nodesFor is how many nodes the tree of so many blocks has.
func nodesFor(blocks int) int {
	leaves := 1
	for leaves < blocks {
		leaves *= 2
	}
	return 2*leaves - 1
}

// treeOf answers the tree of the blocks whose nodes are told.
func treeOf(blocks []node) tree {
	t := make(tree, nodesFor(len(blocks)))
	leaves := t[t.leaf(0)-1:]
	for i := copy(leaves, blocks); i < len(leaves); i++ {
		leaves[i] = nothing
	}
	for x := t.leaf(0) - 1; x > 0; x-- {
		t[x-1] = join(t.at(2*x), t.at(2*x+1))
	}
	return t
}

// at is the x-th node.
func (t tree) at(x int) node { return t[x-1] }

// leaf is the number of a block's own node.
func (t tree) leaf(block int) int { return len(t)/2 + 1 + block }

// over is the node of the blocks from first on, ahead of last: nothing, if
// there are none.
func (t tree) over(first, last int) node {
	ahead, behind := nothing, nothing
	for x, y := t.leaf(first), t.leaf(last); x < y; x, y = x/2, y/2 {
		if x%2 == 1 {
			ahead = join(ahead, t.at(x))
			x++
		}
		if y%2 == 1 {
			y--
			behind = join(t.at(y), behind)
		}
	}
	return join(ahead, behind)
}

// find is the first block from block on, on that way, where the excess is
// most or less at a place; excess is that at the edge that is met first.
// There is such a block.
func (t tree) find(block, way, excess, most int) int {
	x := t.leaf(block)
	for !t.at(x).has(way, excess, most) {
		excess += way * int(t.at(x).sum)
		for isFar(x, way) {
			x /= 2
		}
		x += way
	}
	for x < t.leaf(0) {
		x *= 2
		if isFar(x, way) {
			x++
		}
		if near := t.at(x); !near.has(way, excess, most) {
			excess += way * int(near.sum)
			x += way
		}
	}
	return x - t.leaf(0)
}

// isFar tells whether the x-th is, of the two that are joined, the one that
// is met last on that way.
func isFar(x, way int) bool { return (x%2 == 1) == (way == forth) }
