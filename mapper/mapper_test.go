package mapper

import (
	"math"
	"math/rand"
	"slices"
	"testing"

	"palinode/api"
	"palinode/subset"
)

// far are numbers that are beyond any row.
var far = []int{math.MinInt, math.MinInt + 1, -64, -1, api.MaxText + 1, math.MaxInt - 1, math.MaxInt}

// segsOf tells the counts of a row as its segments.
func segsOf(row []int) []api.Seg {
	var l []api.Seg
	for i, n := range row {
		if i == 0 || row[i-1] != n {
			l = append(l, api.Seg{Count: n})
		}
		l[len(l)-1].Len++
	}
	return l
}

// of is the row of these segments, which must not be refused.
func of(t *testing.T, segs []api.Seg) *subset.Subset {
	t.Helper()
	s, e := subset.Of(segs)
	if e != api.OK {
		t.Fatalf("Of(%v): %v", segs, e)
	}
	return s
}

// wantDown counts place by place.
func wantDown(row []int, at int) int {
	n := 0
	for i, count := range row {
		if i < at && count == 0 {
			n++
		}
	}
	return n
}

// wantUp looks place by place.
func wantUp(row []int, at int) int {
	for i, count := range row {
		if count > 0 {
			continue
		}
		if at <= 0 {
			return i
		}
		at--
	}
	return len(row)
}

// wantNext looks place by place.
func wantNext(row []int, at int) int {
	for i, count := range row {
		if i >= at && count == 0 {
			return i
		}
	}
	return len(row)
}

// wantRuns tells from where to where the places are in the row, or aren't.
func wantRuns(row []int, in bool) []api.Interval {
	var l []api.Interval
	for from := 0; from < len(row); {
		to := from + 1
		for to < len(row) && (row[to] > 0) == (row[from] > 0) {
			to++
		}
		if (row[from] > 0) == in {
			l = append(l, api.Interval{From: from, To: to})
		}
		from = to
	}
	return l
}

// checkAt holds the calls that take a place against what is told by hand.
func checkAt(t *testing.T, s *subset.Subset, row []int, at int) {
	t.Helper()
	if got, want := Down(s, at), wantDown(row, at); got != want {
		t.Fatalf("P9.1: Down of %v at %d: %d, want %d", row, at, got, want)
	}
	if got, want := Up(s, at), wantUp(row, at); got != want {
		t.Fatalf("P9.1: Up of %v at %d: %d, want %d", row, at, got, want)
	}
	if got, want := Next(s, at), wantNext(row, at); got != want {
		t.Fatalf("P9.1: Next of %v at %d: %d, want %d", row, at, got, want)
	}
}

// checkBack fails unless what went up comes down to where it was; what is
// beyond those that aren't in the row comes down to their number.
func checkBack(t *testing.T, s *subset.Subset, row []int, at int) {
	t.Helper()
	want := min(max(at, 0), wantDown(row, len(row)))
	if got := Down(s, Up(s, at)); got != want {
		t.Fatalf("P9.2: Down of Up of %v at %d: %d, want %d", row, at, got, want)
	}
	if got, want := Up(s, Down(s, at)), wantNext(row, at); got != want {
		t.Fatalf("P9.2: Up of Down of %v at %d: %d, want %d", row, at, got, want)
	}
}

// check holds all calls, at all these places and at far ones, against what is
// told by hand.
func check(t *testing.T, row, places []int) {
	t.Helper()
	s := of(t, segsOf(row))
	for _, at := range slices.Concat(places, far) {
		checkAt(t, s, row, at)
		checkBack(t, s, row, at)
	}
	for _, in := range []bool{false, true} {
		if got, want := Runs(s, in), wantRuns(row, in); !slices.Equal(got, want) {
			t.Fatalf("P9.1: Runs of %v, %v: %v, want %v", row, in, got, want)
		}
	}
	if !slices.Equal(s.Segs(), segsOf(row)) {
		t.Fatalf("the row is changed: %v", row)
	}
}

// upTo are the places of a row of n, and some beyond its ends.
func upTo(n int) []int {
	var l []int
	for at := -2; at < n+3; at++ {
		l = append(l, at)
	}
	return l
}

// All rows of up to six places, each 0, 1, 2 or 100 times in them.
func TestShortRows(t *testing.T) {
	rows := [][]int{nil}
	for i := 0; i < len(rows); i++ {
		check(t, rows[i], upTo(len(rows[i])))
		for _, n := range []int{0, 1, 2, 100} {
			if len(rows[i]) < 6 {
				rows = append(rows, append(slices.Clone(rows[i]), n))
			}
		}
	}
}

// runny is a row of n places with segments of all lengths.
func runny(r *rand.Rand, n int) []int {
	l := make([]int, 0, n)
	for len(l) < n {
		count := []int{0, 0, 0, 1, 2, 100}[r.Intn(6)]
		for range min(n-len(l), 1+r.Intn(9)) {
			l = append(l, count)
		}
	}
	return l
}

func TestLongRows(t *testing.T) {
	r := rand.New(rand.NewSource(9))
	for range 200 {
		row := runny(r, r.Intn(150))
		check(t, row, upTo(len(row)))
	}
}

// inTurn is a row of n segments of size places, with these counts in turn.
func inTurn(n, size int, counts ...int) []int {
	var l []int
	for i := range n {
		l = append(l, slices.Repeat([]int{counts[i%len(counts)]}, size)...)
	}
	return l
}

// Rows of as many places, and as many segments, as there can be.
func TestFullRows(t *testing.T) {
	const size = api.MaxText / api.MaxSegs
	places := []int{0, 1, size - 1, size, size + 1, api.MaxText/2 - 1, api.MaxText / 2, api.MaxText/2 + 1,
		api.MaxText - size - 1, api.MaxText - size, api.MaxText - size + 1, api.MaxText - 1, api.MaxText}
	for _, row := range [][]int{
		inTurn(1, api.MaxText, 0),
		inTurn(1, api.MaxText, 3),
		inTurn(api.MaxSegs, size, 0, 1),
		inTurn(api.MaxSegs, size, 1, 0),
		inTurn(api.MaxSegs, size, 1, 2),
		inTurn(api.MaxSegs, size, 1, 2, 0),
	} {
		check(t, row, places)
	}
}

// What lies beyond the ends is held, as the chapter says of each call.
func TestHeld(t *testing.T) {
	s := of(t, segsOf([]int{1, 0, 0, 2, 0, 1}))
	for _, c := range []struct{ at, down, up, next int }{
		{math.MinInt, 0, 1, 1},
		{-1, 0, 1, 1},
		{0, 0, 1, 1},
		{1, 0, 2, 1},
		{2, 1, 4, 2},
		{3, 2, 6, 4},
		{4, 2, 6, 4},
		{5, 3, 6, 6},
		{6, 3, 6, 6},
		{7, 3, 6, 6},
		{math.MaxInt, 3, 6, 6},
	} {
		if down, up, next := Down(s, c.at), Up(s, c.at), Next(s, c.at); down != c.down || up != c.up || next != c.next {
			t.Errorf("P9.1: at %d: %d, %d, %d, want %d, %d, %d", c.at, down, up, next, c.down, c.up, c.next)
		}
	}
}

// Places that are in it, if not as often, are in one run.
func TestRunsOfSeveralCounts(t *testing.T) {
	s := of(t, segsOf([]int{0, 1, 2, 2, 100, 0, 0, 3, 1}))
	if got, want := Runs(s, true), []api.Interval{{From: 1, To: 5}, {From: 7, To: 9}}; !slices.Equal(got, want) {
		t.Errorf("P9.1: Runs that are in it: %v, want %v", got, want)
	}
	if got, want := Runs(s, false), []api.Interval{{From: 0, To: 1}, {From: 5, To: 7}}; !slices.Equal(got, want) {
		t.Errorf("P9.1: Runs that aren't in it: %v, want %v", got, want)
	}
}

// A nil row is one of no places.
func TestNil(t *testing.T) {
	for _, s := range []*subset.Subset{nil, subset.New(0)} {
		for _, at := range append(upTo(0), far...) {
			checkAt(t, s, nil, at)
			checkBack(t, s, nil, at)
		}
		if a, b := Runs(s, false), Runs(s, true); len(a) != 0 || len(b) != 0 {
			t.Errorf("P9.1: Runs of no places: %v, %v", a, b)
		}
	}
}

// What is answered is nobody else's, its spare room too.
func TestMemory(t *testing.T) {
	row := inTurn(7, 3, 0, 1, 2)
	s := of(t, segsOf(row))
	for _, in := range []bool{false, true} {
		a, b := Runs(s, in), Runs(s, in)
		a = a[:cap(a)]
		for i := range a {
			a[i] = api.Interval{From: -9, To: -9}
		}
		if want := wantRuns(row, in); !slices.Equal(b, want) || !slices.Equal(Runs(s, in), want) {
			t.Errorf("P9.1: Runs of %v: two answers share memory", row)
		}
	}
	check(t, row, upTo(len(row)))
}

// The chapter's example.
func TestExample(t *testing.T) {
	if got := Down(of(t, segsOf([]int{0, 1, 0})), 2); got != 1 {
		t.Errorf("P9.1: the example: %d", got)
	}
}
