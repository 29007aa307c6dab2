package tree

import (
	"math"
	"math/rand"
	"slices"
	"testing"

	"palinode/api"
)

// halvings tells how often n can be halved, cut off, until it is 0.
func halvings(n int) int {
	times := 0
	for ; n > 0; n /= 2 {
		times++
	}
	return times
}

// same fails unless x is a tree of l, and no way in it is long.
func same(t *testing.T, x *Tree, l []int) {
	t.Helper()
	if all := x.All(); !slices.Equal(all, l) {
		t.Fatalf("P3.1: %v, want %v", all, l)
	}
	if x.Len() != len(l) {
		t.Fatalf("P3.1: Len %d of %d", x.Len(), len(l))
	}
	d := x.Depth()
	if d > 2+halvings(len(l)) || (d == 0) != (len(l) == 0) {
		t.Fatalf("P3.3: %d numbers: depth %d", len(l), d)
	}
}

// within is what l is from from to to, both held into it.
func within(l []int, from, to int) []int {
	from, to = min(max(from, 0), len(l)), min(max(to, 0), len(l))
	return l[from:max(from, to)]
}

func sumOf(l []int) api.Sum {
	s := api.Sum{N: len(l)}
	for _, v := range l {
		s.Total += v
		s.Max = max(s.Max, v)
	}
	return s
}

// findIn is Find, number by number.
func findIn(l []int, total int) (int, int) {
	ahead := 0
	for at, v := range l {
		if ahead+v > total {
			return at, ahead
		}
		ahead += v
	}
	return len(l), ahead
}

// places are those of a row of n, and those beyond it.
func places(n int) []int {
	l := []int{math.MinInt, math.MinInt + 1, math.MaxInt - 1, math.MaxInt}
	for at := -2; at <= n+2; at++ {
		l = append(l, at)
	}
	return l
}

// rows are some short ones, with numbers that are 0 at all kinds of places.
func rows() [][]int {
	all := [][]int{nil, {}, {greatest}, {0, 0, 0, 0}, {5, 1, 3}, {0, 7, 0, 0, 2, 0}}
	for n := range 40 {
		l := make([]int, n)
		for i := range l {
			l[i] = i * 7 % 5
		}
		all = append(all, l)
	}
	return all
}

// P3.1
func TestNew(t *testing.T) {
	for _, l := range rows() {
		same(t, New(l), l)
	}
	same(t, New([]int{-1, math.MinInt, 0, 1, 999999, 1000000, 1000001, math.MaxInt}),
		[]int{0, 0, 0, 1, 999999, 1000000, 1000000, 1000000})
}

// P3.1
func TestNewMany(t *testing.T) {
	l := make([]int, api.MaxItems+1)
	for i := range l {
		l[i] = i
	}
	for n := api.MaxItems - 1; n <= len(l); n++ {
		same(t, New(l[:n]), l[:min(n, api.MaxItems)])
	}
}

// P3.1
func TestGet(t *testing.T) {
	for _, l := range rows() {
		x := New(l)
		for _, at := range places(len(l)) {
			v, ok := x.Get(at)
			if in := at >= 0 && at < len(l); ok != in || in && v != l[at] || !in && v != 0 {
				t.Fatalf("P3.1: %d of %v: %d, %v", at, l, v, ok)
			}
		}
	}
}

// P3.1
func TestInsert(t *testing.T) {
	for _, l := range rows() {
		for _, at := range places(len(l)) {
			x := New(l)
			e := x.Insert(at, 4)
			if at < 0 || at > len(l) {
				if e != api.ErrRange {
					t.Fatalf("P3.1: at %d of %v: %v", at, l, e)
				}
				same(t, x, l)
				continue
			}
			if e != api.OK {
				t.Fatalf("P3.1: at %d of %v: %v", at, l, e)
			}
			same(t, x, slices.Insert(slices.Clone(l), at, 4))
		}
	}
	x := New(nil)
	for _, v := range []int{math.MinInt, -1, 0, 1000000, 1000001, math.MaxInt} {
		x.Insert(x.Len(), v)
	}
	same(t, x, []int{0, 0, 0, 1000000, 1000000, 1000000})
}

// P3.1
func TestInsertMany(t *testing.T) {
	l := make([]int, api.MaxItems-1)
	x := New(l)
	if e := x.Insert(7, 1); e != api.OK {
		t.Fatalf("P3.1: the last that may be: %v", e)
	}
	l = slices.Insert(l, 7, 1)
	same(t, x, l)
	for at, want := range map[int]api.Errno{0: api.ErrMany, api.MaxItems: api.ErrMany, -1: api.ErrRange, api.MaxItems + 1: api.ErrRange} {
		if e := x.Insert(at, 1); e != want {
			t.Errorf("P3.1: at %d of as many as may be: %v", at, e)
		}
	}
	same(t, x, l)
	if e := x.Delete(0); e != api.OK || x.Insert(0, 0) != api.OK {
		t.Errorf("P3.1: no room where one is gone: %v", e)
	}
	same(t, x, l)
}

// P3.1
func TestDelete(t *testing.T) {
	for _, l := range rows() {
		for _, at := range places(len(l)) {
			x := New(l)
			e := x.Delete(at)
			if at < 0 || at >= len(l) {
				if e != api.ErrRange {
					t.Fatalf("P3.1: at %d of %v: %v", at, l, e)
				}
				same(t, x, l)
				continue
			}
			if e != api.OK {
				t.Fatalf("P3.1: at %d of %v: %v", at, l, e)
			}
			same(t, x, slices.Delete(slices.Clone(l), at, at+1))
		}
	}
}

// P3.2
func TestSumAndSlice(t *testing.T) {
	for _, l := range rows() {
		x := New(l)
		for _, from := range places(len(l)) {
			for _, to := range places(len(l)) {
				want := within(l, from, to)
				if s := x.Sum(from, to); s != sumOf(want) {
					t.Fatalf("P3.2: %d to %d of %v: %v", from, to, l, s)
				}
				same(t, x.Slice(from, to), want)
			}
		}
		same(t, x, l)
	}
}

// P3.2
func TestFind(t *testing.T) {
	if at, ahead := New([]int{1, 2, 3}).Find(1); at != 1 || ahead != 1 {
		t.Errorf("P3.2: the chapter's own: %d, %d", at, ahead)
	}
	for _, l := range rows() {
		x := New(l)
		for _, total := range places(sumOf(l).Total % 1000) {
			place, sum := findIn(l, total)
			if at, ahead := x.Find(total); at != place || ahead != sum {
				t.Fatalf("P3.2: above %d in %v: %d, %d, want %d, %d", total, l, at, ahead, place, sum)
			}
		}
	}
}

// P3.2
func TestSumsOfMany(t *testing.T) {
	x := New(slices.Repeat([]int{greatest}, api.MaxItems))
	if s := x.Sum(0, api.MaxItems); s != (api.Sum{N: api.MaxItems, Total: api.MaxItems * greatest, Max: greatest}) {
		t.Errorf("P3.2: %v", s)
	}
	for _, total := range []int{0, greatest - 1, greatest, 3999*greatest - 1, 3999 * greatest, 4000*greatest - 1, 4000 * greatest} {
		if at, ahead := x.Find(total); at != total/greatest || ahead != total/greatest*greatest {
			t.Errorf("P3.2: above %d: %d, %d", total, at, ahead)
		}
	}
}

// P3.2
func TestConcat(t *testing.T) {
	for _, l := range rows() {
		x := New(l)
		for _, m := range rows() {
			o := New(m)
			y, e := x.Concat(o)
			if e != api.OK {
				t.Fatalf("P3.2: %v and %v: %v", l, m, e)
			}
			same(t, y, slices.Concat(l, m))
			same(t, x, l)
			same(t, o, m)
		}
		y, e := x.Concat(nil)
		if e != api.OK {
			t.Fatalf("P3.2: %v and nil: %v", l, e)
		}
		same(t, y, l)
		y.Insert(0, 1)
		same(t, x, l)
		if y, e = x.Concat(x); e != api.OK {
			t.Fatalf("P3.2: %v twice: %v", l, e)
		}
		same(t, y, slices.Concat(l, l))
	}
}

// P3.2
func TestConcatMany(t *testing.T) {
	x, o := New(make([]int, api.MaxItems-3)), New([]int{1, 2, 3})
	y, e := x.Concat(o)
	if e != api.OK {
		t.Fatalf("P3.2: as many as may be: %v", e)
	}
	same(t, y, append(make([]int, api.MaxItems-3), 1, 2, 3))
	o.Insert(0, 0)
	if y, e = x.Concat(o); y != nil || e != api.ErrMany {
		t.Errorf("P3.2: one more: %v", e)
	}
	if y, e = o.Concat(x); y != nil || e != api.ErrMany {
		t.Errorf("P3.2: one more: %v", e)
	}
	same(t, x, make([]int, api.MaxItems-3))
	same(t, o, []int{0, 1, 2, 3})
}

// P3.1, P3.2: what a call gave goes its own way.
func TestApart(t *testing.T) {
	l := []int{1, 2, 3, 4, 5, 6, 7, 8, 9, 0, 11, 12}
	given := append(slices.Clone(l), 99)[:len(l)]
	x := New(given)
	if !slices.Equal(given[:len(l)+1], append(slices.Clone(l), 99)) {
		t.Error("what was handed in is changed")
	}
	clear(given)
	y, s := x.Copy(), x.Slice(2, 9)
	c, _ := x.Concat(s)
	_ = append(x.All()[:2], 77, 78)
	clear(x.All())
	for _, z := range []*Tree{x, y, s, c} {
		z.Insert(1, 50)
		z.Delete(3)
	}
	change := func(l []int) []int {
		return slices.Delete(slices.Insert(slices.Clone(l), 1, 50), 3, 4)
	}
	same(t, x, change(l))
	same(t, y, change(l))
	same(t, s, change(l[2:9]))
	same(t, c, change(slices.Concat(l, l[2:9])))
}

// play does one thing to x and to l, the row that it should hold.
func play(t *testing.T, r *rand.Rand, x *Tree, l []int) (*Tree, []int) {
	t.Helper()
	at, to := r.Intn(len(l)+1), r.Intn(len(l)+1)
	switch k := r.Intn(12); {
	case k < 5:
		v := r.Intn(9)
		if e := x.Insert(at, v); len(l) == api.MaxItems {
			if e != api.ErrMany {
				t.Fatalf("P3.1: %v", e)
			}
			return x, l
		}
		return x, slices.Insert(l, at, v)
	case k < 8:
		if at < len(l) {
			x.Delete(at)
			l = slices.Delete(l, at, at+1)
		}
		return x, l
	case k == 8 && len(l) > 600:
		return x.Slice(at, to), slices.Clone(within(l, at, to))
	case k > 8:
		y, e := x.Concat(x.Slice(at, to))
		if m := slices.Concat(l, within(l, at, to)); len(m) <= api.MaxItems {
			return y, m
		}
		if y != nil || e != api.ErrMany {
			t.Fatalf("P3.2: %v", e)
		}
	}
	return x.Copy(), l
}

// P3.3, P3.4: no way is long, whatever was called.
func TestPlays(t *testing.T) {
	r := rand.New(rand.NewSource(7))
	for range 20 {
		x, l := New(nil), []int(nil)
		for range 500 {
			x, l = play(t, r, x, l)
			same(t, x, l)
			total := r.Intn(sumOf(l).Total+3) - 1
			place, sum := findIn(l, total)
			if at, ahead := x.Find(total); at != place || ahead != sum {
				t.Fatalf("P3.2: above %d: %d, %d, want %d, %d", total, at, ahead, place, sum)
			}
			from, to := r.Intn(len(l)+1), r.Intn(len(l)+1)
			if s := x.Sum(from, to); s != sumOf(within(l, from, to)) {
				t.Fatalf("P3.2: %d to %d: %v", from, to, s)
			}
		}
	}
}

// P3.3, P3.4: nor where one end alone grows or is eaten.
func TestOneSided(t *testing.T) {
	ends := []func(n int) int{
		func(n int) int { return 0 },
		func(n int) int { return n },
		func(n int) int { return n / 2 },
	}
	for _, in := range ends {
		for _, out := range ends {
			x := New(nil)
			for n := range api.MaxItems {
				x.Insert(in(n), n)
				if d := x.Depth(); d > 2+halvings(n+1) {
					t.Fatalf("P3.3: %d put in: depth %d", n+1, d)
				}
			}
			for n := api.MaxItems - 1; n >= 0; n-- {
				if e := x.Delete(out(n)); e != api.OK {
					t.Fatalf("P3.1: %v", e)
				}
				if d := x.Depth(); d > 2+halvings(n) {
					t.Fatalf("P3.3: %d are left: depth %d", n, d)
				}
			}
			same(t, x, nil)
		}
	}
}
