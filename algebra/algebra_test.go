package algebra

import (
	"math/rand"
	"slices"
	"strings"
	"testing"

	"palinode/api"
	"palinode/subset"
)

// call is one of the calls that take two rows.
type call func(a, b *subset.Subset) (*subset.Subset, api.Errno)

// runsOf tells the counts of a row as its runs.
func runsOf(row []int) []api.Seg {
	var l []api.Seg
	for i, n := range row {
		if i == 0 || row[i-1] != n {
			l = append(l, api.Seg{Count: n})
		}
		l[len(l)-1].Len++
	}
	return l
}

// of is the row of these runs, which must not be refused.
func of(t *testing.T, segs []api.Seg) *subset.Subset {
	t.Helper()
	s, e := subset.Of(segs)
	if e != api.OK {
		t.Fatalf("Of(%v): %v", segs, e)
	}
	return s
}

// row is the row of these counts.
func row(t *testing.T, counts ...int) *subset.Subset {
	t.Helper()
	return of(t, runsOf(counts))
}

// inTurn are n runs of size places, with these counts in turn.
func inTurn(n, size int, counts ...int) []api.Seg {
	var l []api.Seg
	for i := range n {
		l = append(l, api.Seg{Len: size, Count: counts[i%len(counts)]})
	}
	return l
}

// check fails unless s is the row of these counts.
func check(t *testing.T, what string, s *subset.Subset, e api.Errno, want []int) {
	t.Helper()
	if e != api.OK || s == nil {
		t.Fatalf("%s: %v, want %v", what, e, want)
	}
	if got := s.Segs(); !slices.Equal(got, runsOf(want)) {
		t.Fatalf("%s: %v, want %v", what, got, want)
	}
}

// refused fails unless the call answered just want.
func refused(t *testing.T, what string, s *subset.Subset, e, want api.Errno) {
	t.Helper()
	if e != want || s != nil {
		t.Fatalf("%s: %v, %v, want %v", what, s, e, want)
	}
}

// answer is check or refused, as want asks.
func answer(t *testing.T, what string, f call, a, b *subset.Subset, want []int, err api.Errno) {
	t.Helper()
	s, e := f(a, b)
	if err != api.OK {
		refused(t, what, s, e, err)
		return
	}
	check(t, what, s, e, want)
}

// zipped tells place by place what f makes of the counts of both.
func zipped(a, b []int, f func(n, m int) int) []int {
	var l []int
	for i := range a {
		l = append(l, f(a[i], b[i]))
	}
	return l
}

// byHand are the calls of P8.1, told place by place.
var byHand = []struct {
	name string
	call call
	tell func(n, m int) int
}{
	{"Union", Union, func(n, m int) int {
		if n+m > 100 {
			return 100
		}
		return n + m
	}},
	{"Minus", Minus, func(n, m int) int {
		if n < m {
			return 0
		}
		return n - m
	}},
	{"Xor", Xor, func(n, m int) int {
		if n == 0 && m > 0 || n > 0 && m == 0 {
			return 1
		}
		return 0
	}},
}

// free are the places of a row that aren't in it.
func free(counts []int) []int {
	var l []int
	for i, n := range counts {
		if n == 0 {
			l = append(l, i)
		}
	}
	return l
}

// expanded are the counts of a at the places that aren't in b.
func expanded(a, b []int) []int {
	l := make([]int, len(b))
	for i, at := range free(b) {
		l[at] = a[i]
	}
	return l
}

// shrunk are the counts of a at the places that aren't in b.
func shrunk(a, b []int) []int {
	var l []int
	for _, at := range free(b) {
		l = append(l, a[at])
	}
	return l
}

// checkBoth holds all calls that take two rows against what is told by hand.
func checkBoth(t *testing.T, a, b []int) {
	t.Helper()
	x, y := row(t, a...), row(t, b...)
	if len(a) == len(b) {
		for _, c := range byHand {
			answer(t, "P8.1: "+c.name, c.call, x, y, zipped(a, b, c.tell), api.OK)
		}
		answer(t, "P8.2: Shrink", Shrink, x, y, shrunk(a, b), api.OK)
	} else {
		for _, c := range byHand {
			answer(t, "P8.1: "+c.name, c.call, x, y, nil, api.ErrLen)
		}
		answer(t, "P8.2: Shrink", Shrink, x, y, nil, api.ErrLen)
	}
	if len(a) == len(free(b)) {
		answer(t, "P8.2: Expand", Expand, x, y, expanded(a, b), api.OK)
		wide, _ := Expand(x, y)
		answer(t, "P8.3: Shrink of Expand", Shrink, wide, y, a, api.OK)
	} else {
		answer(t, "P8.2: Expand", Expand, x, y, nil, api.ErrLen)
	}
	if !x.Same(row(t, a...)) || !y.Same(row(t, b...)) {
		t.Fatalf("rows are changed: %v, %v", a, b)
	}
}

// checkOne holds the calls that take one row against what is told by hand.
func checkOne(t *testing.T, a []int, text string) {
	t.Helper()
	not := make([]int, len(a))
	var left []byte
	for _, at := range free(a) {
		not[at] = 1
		left = append(left, text[at])
	}
	x := row(t, a...)
	check(t, "P8.1: Not", Not(x), api.OK, not)
	if got, e := Delete(x, text); got != string(left) || e != api.OK {
		t.Fatalf("P8.2: Delete of %v, %q: %q, %v, want %q", a, text, got, e, left)
	}
	for _, other := range []string{text + "x", text + text + "y", text[:len(text)/2]} {
		if got, e := Delete(x, other); len(other) != len(a) && (got != "" || e != api.ErrLen) {
			t.Fatalf("P8.2: Delete of %v, %q: %q, %v", a, other, got, e)
		}
	}
	if !x.Same(row(t, a...)) {
		t.Fatalf("the row is changed: %v", a)
	}
}

// All rows of up to four places, each with each.
func TestShortRows(t *testing.T) {
	rows := [][]int{nil}
	for i := 0; i < len(rows); i++ {
		for _, n := range []int{0, 1, 60, 100} {
			if len(rows[i]) < 4 {
				rows = append(rows, append(slices.Clone(rows[i]), n))
			}
		}
	}
	for _, a := range rows {
		checkOne(t, a, "abcd"[:len(a)])
		for _, b := range rows {
			checkBoth(t, a, b)
		}
	}
}

// runny is a row of n places with runs of all lengths.
func runny(r *rand.Rand, n int) []int {
	l := make([]int, 0, n)
	for len(l) < n {
		count := []int{0, 0, 0, 1, 2, 49, 50, 51, 99, 100}[r.Intn(10)]
		for range min(n-len(l), 1+r.Intn(9)) {
			l = append(l, count)
		}
	}
	return l
}

func TestLongRows(t *testing.T) {
	r := rand.New(rand.NewSource(8))
	for range 400 {
		a := runny(r, r.Intn(150))
		b := runny(r, len(a))
		checkBoth(t, a, b)
		checkBoth(t, runny(r, len(free(b))), b)
		checkBoth(t, a, runny(r, r.Intn(150)))
		text := make([]byte, len(a))
		r.Read(text)
		checkOne(t, a, string(text))
	}
}

// What is taken as the count of a place, at both ends of what it can be.
func TestCounts(t *testing.T) {
	every := make([]int, 101)
	for i := range every {
		every[i] = i
	}
	for n := range 101 {
		checkBoth(t, slices.Repeat([]int{n}, 101), every)
		checkBoth(t, every, slices.Repeat([]int{n}, 101))
	}
	checkOne(t, every, strings.Repeat("z", 101))
}

// A nil row is one of no places, wherever it is handed in.
func TestNil(t *testing.T) {
	none, one, in := subset.New(0), subset.New(1), row(t, 1, 2)
	for i, f := range []call{Union, Minus, Xor, Shrink, Expand} {
		for _, l := range [][2]*subset.Subset{{nil, nil}, {nil, none}, {none, nil}} {
			answer(t, "P8.1: nil", f, l[0], l[1], nil, api.OK)
		}
		answer(t, "P8.1: one place and nil", f, one, nil, nil, api.ErrLen)
		answer(t, "P8.1: nil and one place", f, nil, one, nil, api.ErrLen)
		if i < 4 {
			answer(t, "P8.1: nil and places that are in", f, nil, in, nil, api.ErrLen)
		}
	}
	// All places of in are in it, so that a row of none is just as long.
	answer(t, "P8.2: Expand of nil", Expand, nil, in, []int{0, 0}, api.OK)
	check(t, "P8.1: Not of nil", Not(nil), api.OK, nil)
	if s, e := Delete(nil, ""); s != "" || e != api.OK {
		t.Errorf("P8.2: Delete of nil: %q, %v", s, e)
	}
	if s, e := Delete(nil, "a"); s != "" || e != api.ErrLen {
		t.Errorf("P8.2: Delete of nil, of a byte: %q, %v", s, e)
	}
}

// apart are two rows of as many places, of n and m runs, that end nowhere at
// the same place but at the end: n is m or m - 1.
func apart(n, m int, first, second []int) (a, b []api.Seg) {
	a, b = inTurn(n, 2, first...), inTurn(m, 2, second...)
	b[0].Len = 1
	all := max(2*n, 2*m-1)
	a[n-1].Len += all - 2*n
	b[m-1].Len += all - (2*m - 1)
	return a, b
}

// The segments that there would be are counted: 200 are taken, 201 aren't.
func TestManySegs(t *testing.T) {
	for _, c := range []struct {
		name          string
		call          call
		first, second []int
	}{
		{"Union", Union, []int{0, 1}, []int{0, 2}},
		{"Minus", Minus, []int{9, 8}, []int{0, 2}},
		{"Xor", Xor, []int{0, 1}, []int{0, 3}},
	} {
		a, b := apart(100, 101, c.first, c.second)
		s, e := c.call(of(t, a), of(t, b))
		if e != api.OK || len(s.Segs()) != api.MaxSegs {
			t.Errorf("P8.1: %s of 200 segments: %v", c.name, e)
		}
		a, b = apart(101, 101, c.first, c.second)
		s, e = c.call(of(t, a), of(t, b))
		refused(t, "P8.1: "+c.name+" of 201 segments", s, e, api.ErrMany)
		a, b = apart(200, 200, c.first, c.second)
		s, e = c.call(of(t, a), of(t, b))
		refused(t, "P8.1: "+c.name+" of 399 segments", s, e, api.ErrMany)
		// What is wrong with the lengths is told ahead of the number.
		b[0].Len++
		s, e = c.call(of(t, a), of(t, b))
		refused(t, "P8.1: "+c.name+" of another length", s, e, api.ErrLen)
		// Rows of many runs may come to few.
		s, e = c.call(of(t, a), of(t, a))
		if e != api.OK || len(s.Segs()) > api.MaxSegs {
			t.Errorf("P8.1: %s of a row and itself: %v", c.name, e)
		}
	}
}

func TestManySegsExpanded(t *testing.T) {
	over := of(t, inTurn(api.MaxSegs, 2, 0, 1)) // 100 times two places that aren't in it
	s, e := Expand(of(t, []api.Seg{{Len: 200, Count: 7}}), over)
	if e != api.OK || len(s.Segs()) != api.MaxSegs {
		t.Errorf("P8.2: Expand to 200 segments: %v", e)
	}
	s, e = Expand(of(t, []api.Seg{{Len: 1, Count: 8}, {Len: 199, Count: 7}}), over)
	refused(t, "P8.2: Expand to 201 segments", s, e, api.ErrMany)
	s, e = Expand(of(t, inTurn(200, 1, 1, 2)), over)
	refused(t, "P8.2: Expand to 300 segments", s, e, api.ErrMany)
	s, e = Expand(of(t, inTurn(199, 1, 1, 2)), over)
	refused(t, "P8.2: Expand of a place fewer", s, e, api.ErrLen)
	// Places that aren't in a fall together with those that are in b.
	s, e = Expand(subset.New(200), over)
	if e != api.OK || !s.Same(subset.New(400)) {
		t.Errorf("P8.2: Expand of nothing: %v", e)
	}
}

// The calls that never make more runs than they are given.
func TestFullRows(t *testing.T) {
	full := inTurn(api.MaxSegs, 100, 0, 1)
	turned := inTurn(api.MaxSegs, 100, 1, 0)
	x := of(t, full)
	if s := Not(x); s == nil || !slices.Equal(s.Segs(), turned) {
		t.Errorf("P8.1: Not of a full row: %v", s)
	}
	s, e := Shrink(x, subset.New(api.MaxText))
	if e != api.OK || !s.Same(x) {
		t.Errorf("P8.2: Shrink of a full row: %v", e)
	}
	s, e = Shrink(x, of(t, turned))
	if e != api.OK || !slices.Equal(s.Segs(), []api.Seg{{Len: api.MaxText / 2, Count: 1}}) {
		t.Errorf("P8.2: Shrink to one run: %v", e)
	}
	s, e = Expand(s, of(t, turned))
	if e != api.OK || !s.Same(x) {
		t.Errorf("P8.2: Expand to a full row: %v", e)
	}
	text := strings.Repeat(strings.Repeat("a", 100)+strings.Repeat("b", 100), 100)
	if got, e := Delete(x, text); got != strings.Repeat("a", api.MaxText/2) || e != api.OK {
		t.Errorf("P8.2: Delete of a full row: %d bytes, %v", len(got), e)
	}
	if got, e := Delete(x, text+"a"); got != "" || e != api.ErrLen {
		t.Errorf("P8.2: Delete of too long a text: %d bytes, %v", len(got), e)
	}
}

// Bytes are taken as they are, within code points too.
func TestDeleteBytes(t *testing.T) {
	if got, e := Delete(row(t, 0, 1, 0, 0, 5), "\u20ac\xffx"); got != "\xe2\xac\xff" || e != api.OK {
		t.Errorf("P8.2: %q, %v", got, e)
	}
}

// The chapter's example.
func TestExample(t *testing.T) {
	s, e := Expand(row(t, 1, 1), row(t, 0, 1, 0))
	check(t, "P8.2: the example", s, e, []int{1, 0, 1})
}
