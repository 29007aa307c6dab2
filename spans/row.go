package spans

import (
	"palinode/api"
)

// part is an interval, and what its places have: the zero of V is nothing.
type part[V comparable] struct {
	api.Interval
	has V
}

// row is parts one behind the other, each not ahead of where the one ahead of it
// ends. Its methods give rows of their own.
type row[V comparable] []part[V]

// isLeast tells whether r is a row of n places in the fewest parts: each has
// something, and those that touch haven't the same.
func (r row[V]) isLeast(n int) bool {
	var ahead part[V]
	for _, p := range r {
		if p.From < ahead.To || p.From >= p.To || p.To > n || p.isNothing() {
			return false
		}
		if p.follows(ahead) {
			return false
		}
		ahead = p
	}
	return true
}

// isNothing tells whether p's places have nothing.
func (p part[V]) isNothing() bool {
	var nothing V
	return p.has == nothing
}

// follows tells whether p only goes on with what is ahead of it.
func (p part[V]) follows(ahead part[V]) bool {
	return p.From == ahead.To && p.has == ahead.has
}

// at tells what the place has in the first part that it is in.
func (r row[V]) at(place int) V {
	for _, p := range r {
		if p.From <= place && place < p.To {
			return p.has
		}
	}
	var nothing V
	return nothing
}

// within gives the parts of r that lie in i.
func (r row[V]) within(i api.Interval) row[V] {
	var l row[V]
	for _, p := range r {
		p.From, p.To = max(p.From, i.From), min(p.To, i.To)
		if p.From < p.To {
			l = append(l, p)
		}
	}
	return l
}

// least gives r in the fewest parts.
func (r row[V]) least() row[V] {
	var l row[V]
	for _, p := range r {
		last := len(l) - 1
		switch {
		case p.From >= p.To || p.isNothing():
		case last >= 0 && p.follows(l[last]):
			l[last].To = p.To
		default:
			l = append(l, p)
		}
	}
	return l
}

// put gives r, whose places are from 0 to n - 1, in the fewest parts, with p's
// places as p has them.
func (r row[V]) put(p part[V], n int) row[V] {
	ahead := r.within(api.Interval{To: p.From})
	behind := r.within(api.Interval{From: p.To, To: n})
	return append(append(ahead, p), behind...).least()
}

// moved gives r in the fewest parts, each where to tells that its interval goes,
// which is not ahead of where the one ahead of it goes.
func (r row[V]) moved(to func(api.Interval) api.Interval) row[V] {
	l := make(row[V], 0, len(r))
	for _, p := range r {
		l = append(l, part[V]{Interval: to(p.Interval), has: p.has})
	}
	return l.least()
}
