package rope

import (
	"strings"

	"palinode/api"
	"palinode/count"
	"palinode/sumtree"
	"palinode/utf"
)

// mostChunk is how many bytes a chunk may have.
const mostChunk = 64

// leastChunk is how many bytes a chunk has that isn't the only one: half of the
// most, less the 3 bytes by which an edge may lie ahead of there. Of n bytes
// there are so at most n / leastChunk chunks, or one.
const leastChunk = mostChunk/2 - 3

// chunk is a leaf: a Valid text that isn't empty.
type chunk string

// Sum counts the chunk alone.
func (c chunk) Sum() counts {
	return counts(count.Of(string(c)))
}

// counts are api.Counts that take others behind them.
type counts api.Counts

// Plus counts both.
func (c counts) Plus(behind counts) counts {
	return counts(count.Plus(api.Counts(c), api.Counts(behind)))
}

// row is a text as chunks.
type row = sumtree.Tree[chunk, counts]

// total counts all of a row.
func total(t row) api.Counts {
	return api.Counts(t.Sum(0, t.Len()))
}

// locate gives the place of the chunk within which, or at whose end, byte at
// lies, the chunk, and how far at lies in it. The end counts as the chunk's own,
// so that each byte from 0 to the last one's end has a chunk, if there is any.
func locate(t row, at int) (int, string, int) {
	place, ahead := t.Find(func(c counts) bool { return c.Bytes >= at })
	c, _ := t.Get(place)
	return place, string(c), at - ahead.Bytes
}

// replace gives the row with s in the place of bytes from to to - 1, both of
// which are edges; s is Valid.
func replace(t row, from, to int, s string) row {
	if from == to && s == "" {
		return t
	}
	first, head, fromWithin := locate(t, from)
	last, tail, toWithin := locate(t, to)
	return weld(t.Slice(0, first), head[:fromWithin]+s+tail[toWithin:], t.Slice(last+1, t.Len()))
}

// join gives the row of a's chunks and b's behind them.
func join(a, b row) row {
	last, _ := a.Get(a.Len() - 1)
	first, _ := b.Get(0)
	return weld(a.Slice(0, a.Len()-1), string(last+first), b.Slice(1, b.Len()))
}

// weld gives the row of ahead, s and behind. No chunk of ahead and behind is
// below leastChunk; if s is, then a neighbour is made anew with it.
func weld(ahead row, s string, behind row) row {
	if near, ok := ahead.Get(ahead.Len() - 1); ok && len(s) < leastChunk {
		s = string(near) + s
		ahead = ahead.Slice(0, ahead.Len()-1)
	}
	if near, ok := behind.Get(0); ok && len(s) < leastChunk {
		s += string(near)
		behind = behind.Slice(1, behind.Len())
	}
	return ahead.Join(sumtree.Of(pieces(s))).Join(behind)
}

// pieces cuts s, a Valid text, into chunks. Each has memory of its own, so that
// none keeps the bytes of those that are cut off.
func pieces(s string) []chunk {
	var l []chunk
	for len(s) > mostChunk {
		at := edgeUpTo(s, min(mostChunk, len(s)/2))
		l = append(l, chunk(strings.Clone(s[:at])))
		s = s[at:]
	}
	if s != "" {
		l = append(l, chunk(strings.Clone(s)))
	}
	return l
}

// edgeUpTo gives the last edge of s, a Valid text, that isn't above at, a byte
// of it.
func edgeUpTo(s string, at int) int {
	for utf.Size(s, at) == 0 {
		at--
	}
	return at
}
