package subset

import (
	"math"
	"math/rand"
	"runtime"
	"slices"
	"testing"

	"palinode/api"
)

// far are numbers that are beyond any row.
var far = []int{math.MinInt, math.MinInt + 1, -64, -1, api.MaxText + 1, math.MaxInt - 1, math.MaxInt}

// runsOf tells the counts of a row as its runs.
func runsOf(row []int) []api.Seg {
	var l []api.Seg
	for i, n := range row {
		if i == 0 || row[i-1] != n {
			l = append(l, api.Seg{Count: n})
		}
		l[len(l)-1].Len++
	}
	return l
}

// inTurn are n runs of size places, 0 times and once in turn.
func inTurn(n, size int) []api.Seg {
	var l []api.Seg
	for i := range n {
		l = append(l, api.Seg{Len: size, Count: i % 2})
	}
	return l
}

// of is the row of segs, which must not be refused.
func of(t *testing.T, segs []api.Seg) *Subset {
	t.Helper()
	s, e := Of(segs)
	if e != api.OK || s == nil {
		t.Fatalf("P7.1: Of(%v): %v", segs, e)
	}
	return s
}

// with is s with these places, which must not be refused.
func with(t *testing.T, s *Subset, from, to, count int) *Subset {
	t.Helper()
	x, e := s.With(from, to, count)
	if e != api.OK || x == nil {
		t.Fatalf("P7.2: With(%d, %d, %d) of %v: %v", from, to, count, s.Segs(), e)
	}
	return x
}

// check fails unless s tells the counts of row.
func check(t *testing.T, s *Subset, row []int) {
	t.Helper()
	if got := s.Len(); got != len(row) {
		t.Fatalf("P7.1: Len of %v: %d", row, got)
	}
	size := 0
	for at, n := range row {
		if s.Count(at) != n || s.Has(at) != (n > 0) {
			t.Fatalf("P7.1: place %d of %v: %d, %v", at, row, s.Count(at), s.Has(at))
		}
		if n > 0 {
			size++
		}
	}
	for _, at := range append(slices.Clone(far), len(row), len(row)+1) {
		if s.Count(at) != 0 || s.Has(at) {
			t.Fatalf("P7.1: place %d of %v: %d, %v", at, row, s.Count(at), s.Has(at))
		}
	}
	if s.Size() != size || s.Empty() != (size == 0) {
		t.Fatalf("P7.1: %v: Size %d, Empty %v", row, s.Size(), s.Empty())
	}
	if got := s.Segs(); !slices.Equal(got, runsOf(row)) {
		t.Fatalf("P7.1: Segs of %v: %v", row, got)
	}
}

func TestNew(t *testing.T) {
	for _, n := range []int{0, 1, 2, 5, api.MaxText - 1, api.MaxText} {
		check(t, New(n), make([]int, n))
	}
	for _, n := range far {
		check(t, New(n), make([]int, min(max(n, 0), api.MaxText)))
	}
}

// Every row of up to six places, each up to two times in it.
func TestOfShortRows(t *testing.T) {
	rows := [][]int{nil}
	for i := 0; i < len(rows); i++ {
		row := rows[i]
		s := of(t, runsOf(row))
		check(t, s, row)
		check(t, of(t, s.Segs()), row)
		for n := 0; n < 3 && len(row) < 6; n++ {
			rows = append(rows, append(slices.Clone(row), n))
		}
	}
}

func TestOf(t *testing.T) {
	for _, segs := range [][]api.Seg{
		nil,
		{},
		{{Len: 1}},
		{{Len: 1, Count: 100}},
		{{Len: 3, Count: 1}, {Len: 2}, {Len: 1, Count: 1}},
		{{Len: 1, Count: 99}, {Len: 1, Count: 100}, {Len: 1, Count: 99}},
		{{Len: api.MaxText, Count: 7}},
		{{Len: api.MaxText - 1}, {Len: 1, Count: 1}},
		inTurn(api.MaxSegs, 1),
		inTurn(api.MaxSegs, api.MaxText/api.MaxSegs),
	} {
		if got := of(t, segs).Segs(); !slices.Equal(got, segs) {
			t.Errorf("P7.1: Of(%v): %v", segs, got)
		}
	}
}

func TestOfRefuses(t *testing.T) {
	for _, c := range []struct {
		name string
		segs []api.Seg
		want api.Errno
	}{
		{"no Len", []api.Seg{{}}, api.ErrForm},
		{"no Len behind others", []api.Seg{{Len: 1}, {Count: 1}}, api.ErrForm},
		{"a Len below 0", []api.Seg{{Len: -1}}, api.ErrForm},
		{"a Len far below 0", []api.Seg{{Len: math.MinInt}}, api.ErrForm},
		{"a Count below 0", []api.Seg{{Len: 1, Count: -1}}, api.ErrForm},
		{"a Count above 100", []api.Seg{{Len: 1, Count: 101}}, api.ErrForm},
		{"a Count far above 100", []api.Seg{{Len: 1}, {Len: 1, Count: math.MaxInt}}, api.ErrForm},
		{"one Count twice", []api.Seg{{Len: 1}, {Len: 2}}, api.ErrForm},
		{"the same run twice", []api.Seg{{Len: 1, Count: 2}, {Len: 1, Count: 3}, {Len: 1, Count: 3}}, api.ErrForm},
		{"a run more", inTurn(api.MaxSegs+1, 1), api.ErrMany},
		{"many runs", inTurn(10000, 1), api.ErrMany},
		{"a place more", []api.Seg{{Len: api.MaxText + 1}}, api.ErrMany},
		{"a place more, in two runs", []api.Seg{{Len: api.MaxText}, {Len: 1, Count: 1}}, api.ErrMany},
		{"Lens that wrap round to 2", []api.Seg{{Len: math.MaxInt}, {Len: math.MaxInt, Count: 1}, {Len: 4}}, api.ErrMany},
		{"Lens that wrap round below 0", []api.Seg{{Len: 1}, {Len: math.MaxInt, Count: 1}}, api.ErrMany},
		{"form behind too many runs", append(inTurn(1000, 1), api.Seg{Len: 1, Count: 101}), api.ErrForm},
		{"form behind too many places", []api.Seg{{Len: math.MaxInt}, {Len: 1}}, api.ErrForm},
	} {
		given := slices.Clone(c.segs)
		if s, e := Of(c.segs); s != nil || e != c.want {
			t.Errorf("P7.1: %s: %v, %v, want %v", c.name, s, e, c.want)
		}
		if !slices.Equal(given, c.segs) {
			t.Errorf("P7.1: %s: what was handed in is changed", c.name)
		}
	}
}

func TestSame(t *testing.T) {
	rows := [][]int{nil, {0}, {1}, {0, 0}, {0, 1}, {1, 0}, {1, 1}, {2, 1}, {1, 2}, {0, 0, 1}, {0, 1, 1}, {0, 1, 0}, {1, 0, 0}, {100}, {0, 100}}
	for _, a := range rows {
		for _, b := range rows {
			if got := of(t, runsOf(a)).Same(of(t, runsOf(b))); got != slices.Equal(a, b) {
				t.Errorf("P7.1: Same of %v and %v: %v", a, b, got)
			}
		}
		if got := of(t, runsOf(a)).Same(nil); got != (len(a) == 0) {
			t.Errorf("Same of %v and nil: %v", a, got)
		}
	}
	// However a row came to be, it is the same.
	s := with(t, with(t, with(t, New(9), 2, 7, 3), 4, 5, 0), 4, 5, 3)
	if !s.Same(with(t, New(9), 2, 7, 3)) || !with(t, s, 2, 7, 0).Same(New(9)) {
		t.Errorf("P7.1: %v", s.Segs())
	}
}

// wantWith is what With is to answer beside the row.
func wantWith(size, from, to, count int) api.Errno {
	switch {
	case from < 0 || from > to || to > size:
		return api.ErrRange
	case count < 0 || count > 100:
		return api.ErrForm
	}
	return api.OK
}

// play asks With of s, whose counts are row, and gives what it answers if it
// isn't refused; else s and row.
func play(t *testing.T, s *Subset, row []int, from, to, count int) (*Subset, []int) {
	t.Helper()
	x, e := s.With(from, to, count)
	if want := wantWith(len(row), from, to, count); e != want || (x == nil) != (e != api.OK) {
		t.Fatalf("P7.2: With(%d, %d, %d) of %v: %v, want %v", from, to, count, row, e, want)
	}
	if !slices.Equal(s.Segs(), runsOf(row)) {
		t.Fatalf("P7.2: With(%d, %d, %d) changed %v", from, to, count, row)
	}
	if e != api.OK {
		return s, row
	}
	row = slices.Clone(row)
	for at := from; at < to; at++ {
		row[at] = count
	}
	return x, row
}

// All places, right and wrong ones, of some rows.
func TestWithAllPlaces(t *testing.T) {
	for _, row := range [][]int{nil, {0}, {5}, {0, 0, 0}, {1, 1, 2, 2}, {0, 1, 0, 1, 0}, {2, 1, 1, 1, 2}, {0, 0, 1, 1, 0, 0, 2}} {
		s := of(t, runsOf(row))
		places := slices.Clone(far)
		for at := range len(row) + 2 {
			places = append(places, at)
		}
		for _, from := range places {
			for _, to := range places {
				for _, count := range []int{math.MinInt, -1, 0, 1, 2, 100, 101, math.MaxInt} {
					x, want := play(t, s, row, from, to, count)
					check(t, x, want)
				}
			}
		}
	}
}

func TestWithInTurn(t *testing.T) {
	r := rand.New(rand.NewSource(7))
	for range 100 {
		row := make([]int, r.Intn(150))
		s := New(len(row))
		for range 60 {
			from := r.Intn(len(row)+3) - 1
			to := from + r.Intn(12) - 1
			s, row = play(t, s, row, from, to, r.Intn(4)*r.Intn(40)-1)
			check(t, s, row)
		}
	}
}

// The runs that there would be are counted, not those that there are.
func TestWithManyRuns(t *testing.T) {
	full := of(t, inTurn(api.MaxSegs, 3))
	for _, c := range []struct {
		name            string
		from, to, count int
		want            api.Errno
	}{
		{"within the first", 1, 2, 9, api.ErrMany},
		{"at the beginning", 0, 1, 9, api.ErrMany},
		{"at the end", 599, 600, 9, api.ErrMany},
		{"the end of one and the beginning of the next", 2, 4, 9, api.ErrMany},
		{"all of one", 3, 6, 9, api.OK},
		{"all of the last", 597, 600, 9, api.OK},
		{"to the count of the one behind", 2, 3, 1, api.OK},
		{"one run fewer", 0, 3, 1, api.OK},
		{"two runs fewer", 3, 6, 0, api.OK},
		{"no places", 4, 4, 9, api.OK},
		{"the same count", 4, 5, 1, api.OK},
		{"all", 0, 600, 9, api.OK},
		{"the range ahead of the number", 1, 601, 9, api.ErrRange},
		{"the form ahead of the number", 1, 2, 101, api.ErrForm},
		{"the range ahead of the form", 2, 1, 101, api.ErrRange},
	} {
		x, e := full.With(c.from, c.to, c.count)
		if e != c.want || (x == nil) != (e != api.OK) {
			t.Errorf("P7.2: %s: %v, want %v", c.name, e, c.want)
		}
		if x != nil && (x.Len() != 600 || x.Same(full) != (c.from == c.to || c.name == "the same count")) {
			t.Errorf("P7.2: %s: %v", c.name, x.Segs())
		}
	}
	check(t, with(t, of(t, inTurn(api.MaxSegs-2, 3)), 1, 2, 9), append([]int{0, 9, 0}, func() []int {
		var l []int
		for i := range (api.MaxSegs - 3) * 3 {
			l = append(l, (i/3+1)%2)
		}
		return l
	}()...))
	if x, e := of(t, inTurn(api.MaxSegs-1, 3)).With(1, 2, 9); x != nil || e != api.ErrMany {
		t.Errorf("P7.2: a run more than there can be: %v", e)
	}
}

// What is handed in isn't kept, and what is answered is nobody else's.
func TestMemory(t *testing.T) {
	room := append(make([]api.Seg, 0, 8), api.Seg{Len: 2, Count: 1}, api.Seg{Len: 3}, api.Seg{Len: 1, Count: 7})
	given := slices.Clone(room[:cap(room)])
	s := of(t, room)
	row := []int{1, 1, 0, 0, 0, 7}
	x := with(t, s, 1, 4, 5)
	y := with(t, s, 6, 6, 5)
	if !slices.Equal(given, room[:cap(room)]) {
		t.Fatal("P7.1: what was handed in is changed")
	}
	spoil(room)
	check(t, s, row)
	for _, z := range []*Subset{s, x, y, New(6)} {
		a, b := z.Segs(), z.Segs()
		spoil(a)
		if !slices.Equal(b, z.Segs()) {
			t.Fatal("P7.1: two answers share memory")
		}
	}
	check(t, s, row)
	check(t, x, []int{1, 5, 5, 5, 0, 7})
	check(t, y, row)
	check(t, New(6), make([]int, 6))
}

// spoil writes all over l and the spare room behind it.
func spoil(l []api.Seg) {
	l = l[:cap(l)]
	for i := range l {
		l[i] = api.Seg{Len: -9, Count: -9}
	}
}

// grown tells how many bytes f takes, at the least of some tries.
func grown(f func()) uint64 {
	least := uint64(math.MaxUint64)
	for range 5 {
		var a, b runtime.MemStats
		runtime.ReadMemStats(&a)
		f()
		runtime.ReadMemStats(&b)
		least = min(least, b.TotalAlloc-a.TotalAlloc)
	}
	return least
}

// A row is its runs: as long as it may be, it takes no more room than its runs
// do, and they tell all of it.
func TestRowsAreRuns(t *testing.T) {
	var s *Subset
	if n := grown(func() {
		s = New(api.MaxText)
		s, _ = s.With(1, api.MaxText-1, 1)
		s, _ = s.With(2, api.MaxText-2, 0)
	}); n > 2000 {
		t.Errorf("P7.3: five runs of %d places take %d bytes", api.MaxText, n)
	}
	want := []api.Seg{{Len: 1}, {Len: 1, Count: 1}, {Len: api.MaxText - 4}, {Len: 1, Count: 1}, {Len: 1}}
	if got := s.Segs(); !slices.Equal(got, want) {
		t.Errorf("P7.3: %v", got)
	}
	if !of(t, want).Same(s) || of(t, want[:4]).Same(s) {
		t.Error("P7.3: the runs don't tell the row")
	}
}

// The chapter's example.
func TestExample(t *testing.T) {
	check(t, with(t, New(5), 1, 3, 1), []int{0, 1, 1, 0, 0})
}
