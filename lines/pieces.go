package lines

import (
	"sync"

	"palinode/api"
	"palinode/rope"
)

// leastMost is the least bound of a piece's bytes: the longest code point has as
// many, so that each piece has one at least.
const leastMost = 4

// Pieces gives the bytes from to to - 1 in pieces, each of at most most bytes
// and as long as it may be.
func Pieces(r *rope.Rope, from, to, most int) ([]string, api.Errno) {
	pieces, refused := make(chan string), make(chan api.Errno)
	var cutter sync.WaitGroup
	cutter.Add(1)
	go func() {
		defer cutter.Done()
		cut(known(r), from, to, most, pieces, refused)
	}()
	l, e := gather(pieces, refused)
	cutter.Wait()
	return l, e
}

// cut sends what is wrong to refused, and nothing else; or all pieces, and
// closes them. So never more than one of both channels has something to tell.
func cut(r *rope.Rope, from, to, most int, pieces chan<- string, refused chan<- api.Errno) {
	part, e := r.Slice(from, to)
	if e == api.OK && most < leastMost {
		e = api.ErrForm
	}
	if e != api.OK {
		refused <- e
		return
	}
	text := part.String()
	for begin := 0; begin < len(text); {
		end := pieceEnd(part, begin, most)
		pieces <- text[begin:end]
		begin = end
	}
	close(pieces)
}

// pieceEnd gives the last edge that is at most most bytes behind begin.
func pieceEnd(r *rope.Rope, begin, most int) int {
	// No sum is too great for a number: begin is above 0 only if most is less
	// than the text's length.
	end := min(begin+most, r.Len())
	for !r.IsEdge(end) {
		end--
	}
	return end
}

// gather takes the pieces until they are closed, or what was refused.
func gather(pieces <-chan string, refused <-chan api.Errno) ([]string, api.Errno) {
	var l []string
	for {
		select {
		case p, more := <-pieces:
			if !more {
				return l, api.OK
			}
			l = append(l, p)
		case e := <-refused:
			return nil, e
		}
	}
}
