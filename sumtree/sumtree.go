// Package sumtree: one tree for all kinds of leaves and sums. It is no layer:
// the layers that hold long rows (numbers, texts) build them of it.
//
// A tree never changes; its calls tell new ones, which have most of their nodes
// in common with it.
package sumtree

// Sum is what a tree knows of leaves that stand one behind the other. The zero
// of S is the sum of none.
type Sum[S any] interface {
	Plus(behind S) S
}

// Leaf is what a tree has in its row.
type Leaf[S any] interface {
	Sum() S
}

// Tree is a row of leaves. Its zero is the row of none.
type Tree[L Leaf[S], S Sum[S]] struct {
	root *node[L, S]
}

// Of gives the tree of l.
func Of[L Leaf[S], S Sum[S]](l []L) Tree[L, S] {
	var level []*node[L, S]
	for _, v := range l {
		level = append(level, single[L, S](v))
	}
	for len(level) > 1 {
		level = parents(level)
	}
	return Tree[L, S]{root: only(level)}
}

// Len tells how many leaves there are.
func (t Tree[L, S]) Len() int {
	if t.root == nil {
		return 0
	}
	return t.root.size
}

// Depth tells how many nodes lie on the way down to a leaf, the leaf's with
// them; 0 of no leaves.
func (t Tree[L, S]) Depth() int {
	if t.root == nil {
		return 0
	}
	return t.root.depth
}

// Get gives the leaf at at; false beyond.
func (t Tree[L, S]) Get(at int) (L, bool) {
	if at < 0 || at >= t.Len() {
		var none L
		return none, false
	}
	n := t.root
	for len(n.kids) > 0 {
		i, within := n.way(at)
		n, at = n.kids[i], within
	}
	return n.leaf, true
}

// All gives the leaves in order.
func (t Tree[L, S]) All() []L {
	return leaves(t.root, make([]L, 0, t.Len()))
}

// Sum gives the sum of the leaves from from to to - 1, both held into the row.
func (t Tree[L, S]) Sum(from, to int) S {
	var none S
	if t.root == nil {
		return none
	}
	return sumOf(t.root, t.held(from), t.held(to))
}

// Find gives the first place of which above holds, asked with the sum of the
// leaves up to it and it, and the sum of those ahead of it; Len and the sum of
// all, if there is none. Once above holds, it must hold of all that follow.
func (t Tree[L, S]) Find(above func(S) bool) (int, S) {
	at := 0
	var ahead S
	if t.root == nil {
		return at, ahead
	}
	if !above(t.root.sum) {
		return t.root.size, t.root.sum
	}
	n := t.root
	for len(n.kids) > 0 {
		i, last := 0, len(n.kids)-1
		for i < last && !above(ahead.Plus(n.kids[i].sum)) {
			at += n.kids[i].size
			ahead = ahead.Plus(n.kids[i].sum)
			i++
		}
		n = n.kids[i]
	}
	return at, ahead
}

// Slice gives the tree of the leaves from from to to - 1, both held into the
// row.
func (t Tree[L, S]) Slice(from, to int) Tree[L, S] {
	return Tree[L, S]{root: tail(head(t.root, t.held(to)), t.held(from))}
}

// Join gives the tree of t's leaves and o's behind them.
func (t Tree[L, S]) Join(o Tree[L, S]) Tree[L, S] {
	return Tree[L, S]{root: join(t.root, o.root)}
}

// Replace gives the tree with o's leaves in the place of those from from to
// to - 1, both held into the row, to to what is not below from.
func (t Tree[L, S]) Replace(from, to int, o Tree[L, S]) Tree[L, S] {
	ahead := head(t.root, t.held(from))
	behind := tail(t.root, t.held(max(from, to)))
	return Tree[L, S]{root: join(join(ahead, o.root), behind)}
}

// held holds at from 0 to Len, so that no place that is counted on from it
// wraps round.
func (t Tree[L, S]) held(at int) int {
	return min(max(at, 0), t.Len())
}
