package metric

import (
	"palinode/api"
	"palinode/count"
	"palinode/rope"
)

// sum is what is known of parts that stand one behind the other. Its zero is
// the sum of none.
type sum[S any] interface {
	plus(behind S) S
}

// part is something with a sum that falls into two parts of its own kind: a
// first one, unless it is so small (false) that one goes through all of it, and
// the one behind that.
type part[P, S any] interface {
	sum() S
	first() (P, bool)
	behind(first P) P
}

// down gives the least part of p within which, or at whose end, the sum from
// p's beginning on first reaches, and the sum of what is ahead of that part; the
// last part, if it doesn't reach. Once a sum reaches, all that follow must.
func down[P part[P, S], S sum[S]](p P, reaches func(S) bool) (P, S) {
	var ahead S
	for {
		first, ok := p.first()
		if !ok {
			return p, ahead
		}
		if both := ahead.plus(first.sum()); reaches(both) {
			p = first
		} else {
			p, ahead = p.behind(first), both
		}
	}
}

// counts are api.Counts that take others behind them.
type counts api.Counts

// plus counts both.
func (c counts) plus(behind counts) counts {
	return counts(count.Plus(api.Counts(c), api.Counts(behind)))
}

// get gives the count of that kind; 0 of no kind.
func (c counts) get(kind int) int {
	return count.Get(api.Counts(c), kind)
}

// smallText is how many bytes a text may have to be gone through: as many as a
// rope's pieces may.
const smallText = 64

// text is a rope as a part.
type text struct {
	rope *rope.Rope
}

// textOf gives r as a part; a nil rope is empty.
func textOf(r *rope.Rope) text {
	if r == nil {
		r, _ = rope.New("")
	}
	return text{rope: r}
}

// sum gives the text's counts, which a rope knows without going through it.
func (t text) sum() counts {
	return counts(t.rope.Counts())
}

// first gives what is ahead of an edge by the middle. The edge isn't 0: no code
// point is so long.
func (t text) first() (text, bool) {
	if t.rope.Len() <= smallText {
		return text{}, false
	}
	at := t.rope.Len() / 2
	for !t.rope.IsEdge(at) {
		at--
	}
	return t.slice(0, at), true
}

// behind gives what is behind first.
func (t text) behind(first text) text {
	return t.slice(first.rope.Len(), t.rope.Len())
}

// slice gives the text from the edge from to the edge to.
func (t text) slice(from, to int) text {
	r, _ := t.rope.Slice(from, to)
	return text{rope: r}
}
