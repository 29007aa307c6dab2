package sumtree

import (
	"slices"
)

// node is a leaf, or has two or three kids, which are all as deep as each
// other: so of a depth of d there are at least 2^(d-1) leaves, and no way down
// is long. What a node has is never changed, so trees may have nodes in common.
type node[L Leaf[S], S Sum[S]] struct {
	depth int // nodes on the way down to a leaf, both ends with them
	size  int // leaves
	sum   S   // of them
	leaf  L   // of a node without kids
	kids  []*node[L, S]
}

// mostKids is how many kids a node may have. Twice the least (2) is one more,
// so that what is too much for one node is enough for two.
const mostKids = 3

// single gives the node of one leaf.
func single[L Leaf[S], S Sum[S]](v L) *node[L, S] {
	return &node[L, S]{depth: 1, size: 1, sum: v.Sum(), leaf: v}
}

// parent gives the node above kids, which keeps that list.
func parent[L Leaf[S], S Sum[S]](kids []*node[L, S]) *node[L, S] {
	n := &node[L, S]{depth: kids[0].depth + 1, kids: kids}
	for _, k := range kids {
		n.size += k.size
		n.sum = n.sum.Plus(k.sum)
	}
	return n
}

// parents gives the nodes above a level of two nodes or more.
func parents[L Leaf[S], S Sum[S]](level []*node[L, S]) []*node[L, S] {
	var up []*node[L, S]
	for len(level) > mostKids {
		up = append(up, parent(slices.Clone(level[:2])))
		level = level[2:]
	}
	return append(up, parent(slices.Clone(level)))
}

// only gives the one tree of kids that a node had: none, one, or one above them.
func only[L Leaf[S], S Sum[S]](kids []*node[L, S]) *node[L, S] {
	switch len(kids) {
	case 0:
		return nil
	case 1:
		return kids[0]
	}
	return parent(slices.Clone(kids))
}

// join gives the tree of a's leaves and b's behind them.
func join[L Leaf[S], S Sum[S]](a, b *node[L, S]) *node[L, S] {
	if a == nil {
		return b
	}
	if b == nil {
		return a
	}
	return only(meld(a, b))
}

// meld gives the one or two nodes of a's leaves and b's behind them, as deep as
// the deeper of both. It goes down the deeper one's side only as far as both
// differ.
func meld[L Leaf[S], S Sum[S]](a, b *node[L, S]) []*node[L, S] {
	if a.depth > b.depth {
		last := len(a.kids) - 1
		return parents(slices.Concat(a.kids[:last], meld(a.kids[last], b)))
	}
	if a.depth < b.depth {
		return parents(slices.Concat(meld(a, b.kids[0]), b.kids[1:]))
	}
	return []*node[L, S]{a, b}
}

// head gives the tree of the first at leaves.
func head[L Leaf[S], S Sum[S]](n *node[L, S], at int) *node[L, S] {
	if n == nil || at <= 0 {
		return nil
	}
	if at >= n.size {
		return n
	}
	i, within := n.way(at)
	return join(only(n.kids[:i]), head(n.kids[i], within))
}

// tail gives the tree of all leaves but the first at.
func tail[L Leaf[S], S Sum[S]](n *node[L, S], at int) *node[L, S] {
	if n == nil || at <= 0 {
		return n
	}
	if at >= n.size {
		return nil
	}
	i, within := n.way(at)
	return join(tail(n.kids[i], within), only(n.kids[i+1:]))
}

// way tells which kid has the leaf at at, a place of the node, and where.
func (n *node[L, S]) way(at int) (int, int) {
	i := 0
	for at >= n.kids[i].size {
		at -= n.kids[i].size
		i++
	}
	return i, at
}

// leaves gives l with the leaves of n behind it.
func leaves[L Leaf[S], S Sum[S]](n *node[L, S], l []L) []L {
	if n == nil {
		return l
	}
	if len(n.kids) == 0 {
		return append(l, n.leaf)
	}
	for _, k := range n.kids {
		l = leaves(k, l)
	}
	return l
}

// sumOf gives the sum of n's leaves from from to to - 1; either may lie beyond
// the node.
func sumOf[L Leaf[S], S Sum[S]](n *node[L, S], from, to int) S {
	var s S
	if from >= to || to <= 0 || from >= n.size {
		return s
	}
	if from <= 0 && to >= n.size {
		return n.sum
	}
	for _, k := range n.kids {
		s = s.Plus(sumOf(k, from, to))
		from -= k.size
		to -= k.size
	}
	return s
}
