package sumtree

import (
	"math"
	"math/bits"
	"math/rand"
	"slices"
	"strings"
	"testing"
)

// letter is a leaf whose sums tell the order of what they were made of.
type letter byte

type word struct{ s string }

func (l letter) Sum() word        { return word{string(rune(l))} }
func (w word) Plus(o word) word   { return word{w.s + o.s} }
func lettersOf(s string) []letter { return []letter(s) }

func wordOf(t Tree[letter, word]) string {
	var b strings.Builder
	for _, l := range t.All() {
		b.WriteByte(byte(l))
	}
	return b.String()
}

// sound fails unless each node is what a node must be.
func sound[L Leaf[S], S interface {
	comparable
	Sum[S]
}](t *testing.T, n *node[L, S]) {
	t.Helper()
	if n == nil {
		return
	}
	if len(n.kids) == 0 {
		if n.depth != 1 || n.size != 1 || n.sum != n.leaf.Sum() {
			t.Fatalf("leaf %v: depth %d, size %d, sum %v", n.leaf, n.depth, n.size, n.sum)
		}
		return
	}
	if len(n.kids) < 2 || len(n.kids) > 3 {
		t.Fatalf("%d kids", len(n.kids))
	}
	size := 0
	var sum S
	for _, k := range n.kids {
		if k.depth != n.depth-1 {
			t.Fatalf("depth %d below %d", k.depth, n.depth)
		}
		sound(t, k)
		size += k.size
		sum = sum.Plus(k.sum)
	}
	if n.size != size || n.sum != sum {
		t.Fatalf("size %d, sum %v; want %d, %v", n.size, n.sum, size, sum)
	}
}

// same fails unless t is a sound tree of s.
func same(t *testing.T, x Tree[letter, word], s string) {
	t.Helper()
	sound(t, x.root)
	if got := wordOf(x); got != s || x.Len() != len(s) {
		t.Fatalf("%q, want %q", got, s)
	}
	if x.Depth() > bits.Len(uint(len(s))) || (x.Depth() == 0) != (s == "") {
		t.Fatalf("%d leaves: depth %d", len(s), x.Depth())
	}
}

const alphabet = "abcdefghijklmnopqrstuvwxyzABCDEFGHIJKLMNOPQRSTUVWXYZ"

// held is what s is from from to to, both held into it.
func held(s string, from, to int) string {
	from, to = min(max(from, 0), len(s)), min(max(to, 0), len(s))
	return s[from:max(from, to)]
}

func TestRanges(t *testing.T) {
	for n := range 30 {
		s := alphabet[:n]
		x := Of(lettersOf(s))
		same(t, x, s)
		ends := []int{math.MinInt, math.MaxInt}
		for at := -2; at <= n+2; at++ {
			ends = append(ends, at)
		}
		for _, from := range ends {
			if l, ok := x.Get(from); ok != (from >= 0 && from < n) || ok && byte(l) != s[from] || !ok && l != 0 {
				t.Fatalf("%d of %q: %v, %v", from, s, l, ok)
			}
			for _, to := range ends {
				want := held(s, from, to)
				same(t, x.Slice(from, to), want)
				if got := x.Sum(from, to).s; got != want {
					t.Fatalf("sum of %q from %d to %d: %q", s, from, to, got)
				}
				same(t, x.Replace(from, to, Of(lettersOf("12"))), held(s, 0, from)+"12"+held(s, max(from, to), n))
				same(t, x, s)
			}
		}
	}
}

func TestJoin(t *testing.T) {
	long := strings.Repeat(alphabet, 4)
	for a := range 70 {
		for b := range 70 {
			x, y := Of(lettersOf(long[:a])), Of(lettersOf(long[a:a+b]))
			same(t, x.Join(y), long[:a+b])
			same(t, x, long[:a])
			same(t, y, long[a:a+b])
		}
	}
}

func TestFind(t *testing.T) {
	for n := range 40 {
		s := alphabet[:n]
		x := Of(lettersOf(s))
		for least := -1; least <= n+1; least++ {
			at, ahead := x.Find(func(w word) bool { return len(w.s) >= least })
			want := min(max(least-1, 0), n)
			if at != want || ahead.s != s[:want] {
				t.Fatalf("%d of %q: %d, %q", least, s, at, ahead.s)
			}
		}
	}
}

func TestPlays(t *testing.T) {
	r := rand.New(rand.NewSource(1))
	for range 60 {
		var x Tree[letter, word]
		s := ""
		for range 200 {
			from := r.Intn(len(s) + 1)
			to := min(from+r.Intn(12), len(s))
			in := alphabet[:r.Intn(12)]
			x = x.Replace(from, to, Of(lettersOf(in)))
			s = s[:from] + in + s[to:]
			same(t, x, s)
			if r.Intn(20) == 0 {
				x, s = x.Slice(from, len(s)).Join(x.Slice(0, to)), held(s, from, len(s))+held(s, 0, to)
				same(t, x, s)
			}
		}
	}
}

// step is a leaf whose sums count how often they were asked for.
type step struct{ asked *int }

type steps struct {
	n     int
	asked *int
}

func (s step) Sum() steps { return steps{1, s.asked} }

func (s steps) Plus(o steps) steps {
	asked := s.asked
	if asked == nil {
		asked = o.asked
	}
	if asked != nil {
		*asked++
	}
	return steps{s.n + o.n, asked}
}

// TestShortWays: no call but those that tell all leaves goes through many nodes.
func TestShortWays(t *testing.T) {
	const n = 4000
	asked := 0
	x := Of(slices.Repeat([]step{{&asked}}, n))
	one := Of([]step{{&asked}})
	most := 16 * x.Depth()
	for at := 0; at <= n; at += 7 {
		calls := []func(){
			func() { x.Sum(at, n-at) },
			func() { x.Find(func(s steps) bool { return s.n > at }) },
			func() { x.Slice(at, n-at) },
			func() { x.Replace(at, at, one) },
			func() { x.Replace(at, at+1, Tree[step, steps]{}) },
			func() { x.Replace(n-at, at, one) },
			func() { x.Slice(0, at).Join(x.Slice(at, n)) },
		}
		for i, call := range calls {
			asked = 0
			call()
			if asked > most {
				t.Fatalf("call %d at %d of %d leaves: %d steps, more than %d", i, at, n, asked, most)
			}
		}
	}
}

// TestShare: trees that have nodes in common don't touch each other.
func TestShare(t *testing.T) {
	l := lettersOf(alphabet)
	x := Of(l)
	clear(l)
	same(t, x, alphabet)
	clear(x.All())
	same(t, x, alphabet)
	y := x.Join(x).Join(x)
	same(t, y.Replace(3, 100, x), alphabet[:3]+alphabet+alphabet[48:]+alphabet)
	same(t, y, alphabet+alphabet+alphabet)
	same(t, x, alphabet)
}
