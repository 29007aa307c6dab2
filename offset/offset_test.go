package offset

import (
	"math"
	"math/rand"
	"slices"
	"strings"
	"testing"

	"palinode/api"
	"palinode/compose"
	"palinode/delta"
)

func put(s string) api.Elem                    { return api.Elem{Text: s} }
func keep(from, to int) api.Elem               { return api.Elem{From: from, To: to} }
func of(base int, elems ...api.Elem) api.Delta { return api.Delta{Base: base, Elems: elems} }
func span(from, to int) api.Interval           { return api.Interval{From: from, To: to} }
func long(n int) string                        { return strings.Repeat("x", n) }

// cells are the bytes that d makes: each by its own place in Base, or -1, if it
// was put in.
func cells(d api.Delta) []int {
	var row []int
	for _, e := range d.Elems {
		for at := e.From; at < e.To; at++ {
			row = append(row, at)
		}
		for range len(e.Text) {
			row = append(row, -1)
		}
	}
	return row
}

// around gives where in row the last kept byte ahead of the place at stands (-1,
// if there is none), and the first that is at it or behind it (the end of row,
// if there is none).
func around(row []int, at int) (last, first int) {
	last, first = -1, len(row)
	for i, place := range row {
		if place >= 0 && place < at {
			last = i
		}
		if place >= at && first == len(row) {
			first = i
		}
	}
	return last, first
}

// wantMove counts, byte by byte, as P14.1 says.
func wantMove(d api.Delta, at int, after bool) int {
	row := cells(d)
	at = min(max(at, 0), d.Base)
	last, first := around(row, at)
	n := 0
	for i, place := range row {
		switch {
		case place >= 0 && place < at:
			n++
		case place < 0 && i < last:
			n++
		case place < 0 && after && last < i && i < first:
			n++
		}
	}
	return n
}

// wantBack tells, byte by byte, what P14.1 says.
func wantBack(d api.Delta, at int) int {
	row := cells(d)
	at = min(max(at, 0), len(row))
	switch {
	case at == len(row):
		return d.Base
	case row[at] >= 0:
		return row[at]
	}
	// The byte ahead of it that was kept ends the last copy.
	for i := at; i >= 0; i-- {
		if row[i] >= 0 {
			return row[i] + 1
		}
	}
	return 0
}

// wantInterval tells what P14.2 says.
func wantInterval(d api.Delta, i api.Interval) api.Interval {
	from, to := wantMove(d, i.From, true), wantMove(d, i.To, false)
	if to < from {
		to = from
	}
	return span(from, to)
}

// checkPlace holds all that is told of one place against the chapter's words.
func checkPlace(t *testing.T, d api.Delta, at int) {
	t.Helper()
	for _, after := range []bool{false, true} {
		if got, want := Move(d, at, after), wantMove(d, at, after); got != want {
			t.Fatalf("P14.1: Move(%v, %d, %v): %d, want %d", d, at, after, got, want)
		}
	}
	if got, want := Back(d, at), wantBack(d, at); got != want {
		t.Fatalf("P14.1: Back(%v, %d): %d, want %d", d, at, got, want)
	}
	if got, want := Stays(d, at), at >= 0 && slices.Contains(cells(d), at); got != want {
		t.Fatalf("P14.1: Stays(%v, %d): %v, want %v", d, at, got, want)
	}
}

// checkInterval holds Interval against the chapter's words.
func checkInterval(t *testing.T, d api.Delta, i api.Interval) {
	t.Helper()
	if got, want := Interval(d, i), wantInterval(d, i); got != want {
		t.Fatalf("P14.2: Interval(%v, %v): %v, want %v", d, i, got, want)
	}
}

// every calls f with each delta over a text of base bytes whose texts are of
// these.
func every(t *testing.T, base int, texts []string, f func(d api.Delta)) {
	t.Helper()
	var fill func(at int, elems []api.Elem)
	fill = func(at int, elems []api.Elem) {
		for _, s := range texts {
			next := slices.Clone(elems)
			if s != "" {
				next = append(next, put(s))
			}
			d := of(base, slices.Clone(next)...)
			if !delta.Is(d) {
				t.Fatalf("%v is no delta", d)
			}
			f(d)
			for from := at; from < base; from++ {
				// It would be part of the copy ahead of it.
				if s == "" && from == at && at > 0 {
					continue
				}
				for to := from + 1; to <= base; to++ {
					fill(to, append(slices.Clone(next), keep(from, to)))
				}
			}
		}
	}
	fill(0, nil)
}

// some is a delta over a text of base bytes.
func some(r *rand.Rand, base, most int) api.Delta {
	var l []api.Change
	at := 0
	for range r.Intn(most + 1) {
		from := at + r.Intn(min(base-at, 40)+1)
		to := from + r.Intn(min(base-from, 12)+1)
		l = append(l, api.Change{From: from, To: to, Text: []string{"", "x", "é", "\U0001f600 yz"}[r.Intn(4)]})
		if at = to + 1; at > base {
			break
		}
	}
	d, _ := delta.Build(base, l)
	return d
}

// All deltas over up to four bytes, at all places in them and beyond.
func TestEveryShort(t *testing.T) {
	n := 0
	for base := range 5 {
		every(t, base, []string{"", "x", "é"}, func(d api.Delta) {
			n++
			for at := -2; at <= len(cells(d))+base+2; at++ {
				checkPlace(t, d, at)
			}
			checkPlace(t, d, math.MinInt)
			checkPlace(t, d, math.MaxInt)
			for from := -1; from <= base+1; from++ {
				for to := -1; to <= base+1; to++ {
					checkInterval(t, d, span(from, to))
				}
			}
		})
	}
	if n < 1000 {
		t.Errorf("only %d deltas", n)
	}
}

func TestSomeLong(t *testing.T) {
	r := rand.New(rand.NewSource(141))
	for range 300 {
		base := r.Intn(500)
		d := some(r, base, 29)
		for range 30 {
			checkPlace(t, d, r.Intn(base+20)-10)
			checkInterval(t, d, span(r.Intn(base+20)-10, r.Intn(base+20)-10))
		}
	}
}

func TestMoveRows(t *testing.T) {
	in := of(4, keep(0, 2), put("x"), keep(2, 4))
	swap := of(6, keep(0, 1), put("é"), keep(4, 6))
	ends := of(3, put("ab"), keep(0, 3), put("cd"))
	apart := of(9, put("a"), keep(2, 3), put("bc"), keep(3, 4), keep(6, 7), put("d"))
	for _, c := range []struct {
		what          string
		d             api.Delta
		at            int
		before, after int
	}{
		{"where a text is put in", in, 2, 2, 3},
		{"ahead of it", in, 1, 1, 1},
		{"behind it", in, 3, 4, 4},
		{"the beginning", in, 0, 0, 0},
		{"the end", in, 4, 5, 5},
		{"where something goes for a text", swap, 1, 1, 3},
		{"in what goes", swap, 2, 1, 3},
		{"at the end of what goes", swap, 4, 1, 3},
		{"behind what goes", swap, 5, 4, 4},
		{"a text at the beginning", ends, 0, 0, 2},
		{"in a copy between texts", ends, 1, 3, 3},
		{"a text at the end", ends, 3, 5, 7},
		{"far below", ends, -5, 0, 2},
		{"the lowest", ends, math.MinInt, 0, 2},
		{"far above", ends, 9, 5, 7},
		{"the highest", ends, math.MaxInt, 5, 7},
		{"gone at the beginning", apart, 1, 0, 1},
		{"the first that is kept", apart, 2, 0, 1},
		{"between copies that touch", apart, 3, 2, 4},
		{"at the end of a copy, without a text", apart, 4, 5, 5},
		{"gone, without a text", apart, 5, 5, 5},
		{"at the last copy", apart, 6, 5, 5},
		{"at the end of the last copy", apart, 7, 6, 7},
		{"gone at the end", apart, 8, 6, 7},
		{"Base, gone", apart, 9, 6, 7},
		{"all goes", of(5), 3, 0, 0},
		{"all goes for a text", of(5, put("xy")), 3, 0, 2},
		{"nothing", of(0), 0, 0, 0},
		{"a text for nothing", of(0, put("xy")), 0, 0, 2},
		{"all stays", delta.Keep(5), 3, 3, 3},
	} {
		if got := Move(c.d, c.at, false); got != c.before {
			t.Errorf("P14.1: %s: %d, want %d", c.what, got, c.before)
		}
		if got := Move(c.d, c.at, true); got != c.after {
			t.Errorf("P14.1: %s, after: %d, want %d", c.what, got, c.after)
		}
	}
}

func TestBackRows(t *testing.T) {
	ends := of(3, put("ab"), keep(0, 3), put("cd"))
	apart := of(9, put("a"), keep(2, 3), put("bc"), keep(3, 4), keep(6, 7), put("d"))
	for _, c := range []struct {
		what string
		d    api.Delta
		at   int
		want int
	}{
		{"put in at the beginning", ends, 0, 0},
		{"still put in", ends, 1, 0},
		{"the first that was kept", ends, 2, 0},
		{"the last that was kept", ends, 4, 2},
		{"put in at the end", ends, 5, 3},
		{"still put in at the end", ends, 6, 3},
		{"Size", ends, 7, 3},
		{"above Size", ends, 8, 3},
		{"the highest", ends, math.MaxInt, 3},
		{"below", ends, -1, 0},
		{"the lowest", ends, math.MinInt, 0},
		{"put in where something goes at the beginning", apart, 0, 0},
		{"kept, behind what goes", apart, 1, 2},
		{"put in between", apart, 2, 3},
		{"still put in between", apart, 3, 3},
		{"kept behind a text", apart, 4, 3},
		{"kept behind what goes without a text", apart, 5, 6},
		{"put in ahead of what goes", apart, 6, 7},
		{"Size, where something goes at the end", apart, 7, 9},
		{"below, where something goes at the beginning", of(5, keep(2, 5)), -1, 2},
		{"Size, without a text", of(5, keep(2, 3)), 1, 5},
		{"all goes", of(5), 0, 5},
		{"all goes, the lowest", of(5), math.MinInt, 5},
		{"all goes for a text", of(5, put("é")), 1, 0},
		{"all goes for a text, Size", of(5, put("é")), 2, 5},
		{"nothing", of(0), 0, 0},
		{"all stays", delta.Keep(5), 3, 3},
	} {
		if got := Back(c.d, c.at); got != c.want {
			t.Errorf("P14.1: %s: %d, want %d", c.what, got, c.want)
		}
	}
}

func TestStaysRows(t *testing.T) {
	apart := of(9, put("a"), keep(2, 3), put("bc"), keep(3, 4), keep(6, 8), put("d"))
	for at, want := range []bool{false, false, true, true, false, false, true, true, false, false, false} {
		if got := Stays(apart, at); got != want {
			t.Errorf("P14.1: Stays(%d): %v", at, got)
		}
	}
	// No place is held: beyond the text no byte is.
	all := delta.Keep(4)
	for at, want := range map[int]bool{math.MinInt: false, -1: false, 0: true, 3: true, 4: false, math.MaxInt: false} {
		if got := Stays(all, at); got != want {
			t.Errorf("P14.1: Stays(%d): %v", at, got)
		}
	}
	for _, d := range []api.Delta{of(0), of(0, put("x")), of(3), of(3, put("xyz"))} {
		if Stays(d, 0) {
			t.Errorf("P14.1: %v keeps nothing", d)
		}
	}
}

func TestIntervalRows(t *testing.T) {
	// Of "abcdef": x ahead of c, d goes, y is put in behind e.
	d := of(6, keep(0, 2), put("x"), keep(2, 3), keep(4, 5), put("y"), keep(5, 6))
	ends := of(2, put("xy"), keep(0, 2), put("z"))
	for _, c := range []struct {
		what string
		d    api.Delta
		i    api.Interval
		want api.Interval
	}{
		{"a text at its beginning", d, span(2, 3), span(3, 4)},
		{"a text at its end", d, span(0, 2), span(0, 2)},
		{"texts at both ends", d, span(2, 5), span(3, 5)},
		{"texts in it", d, span(1, 6), span(1, 7)},
		{"all of it goes", d, span(3, 4), span(4, 4)},
		{"its beginning goes", d, span(3, 5), span(4, 5)},
		{"its end goes", d, span(1, 4), span(1, 4)},
		{"empty, at a text", d, span(2, 2), span(3, 3)},
		{"empty, where something goes", d, span(3, 3), span(4, 4)},
		{"empty, within a copy", d, span(1, 1), span(1, 1)},
		{"its To ahead of its From", d, span(5, 1), span(6, 6)},
		{"all", ends, span(0, 2), span(2, 4)},
		{"more than all", ends, span(-3, 7), span(2, 4)},
		{"the widest", ends, span(math.MinInt, math.MaxInt), span(2, 4)},
		{"the widest, turned", ends, span(math.MaxInt, math.MinInt), span(5, 5)},
		{"below", ends, span(-3, -1), span(2, 2)},
		{"above", ends, span(5, 9), span(5, 5)},
		{"all goes for a text", of(3, put("xy")), span(0, 3), span(2, 2)},
		{"all goes", of(3), span(0, 3), span(0, 0)},
		{"nothing", of(0), span(0, 0), span(0, 0)},
	} {
		if got := Interval(c.d, c.i); got != c.want {
			t.Errorf("P14.2: %s: %v, want %v", c.what, got, c.want)
		}
	}
}

func TestNoDelta(t *testing.T) {
	bad := []api.Delta{
		of(-1),
		of(api.MaxText + 1),
		of(api.MaxText+1, keep(0, 4)),
		of(math.MaxInt, keep(0, math.MaxInt)),
		of(4, keep(0, 5)),
		of(4, keep(-1, 3)),
		of(4, keep(2, 2)),
		of(4, keep(3, 1)),
		of(4, put("x"), keep(1, 3), keep(0, 4)),
		of(4, put("x"), keep(0, 2), keep(2, 4)),
		of(4, keep(2, 4), put("x"), keep(0, 2)),
		of(4, put("x"), put("y"), keep(0, 4)),
		of(4, keep(0, 4), api.Elem{}),
		of(4, keep(0, 4), put("\xff")),
		of(4, keep(0, 4), put("é"[:1])),
		of(4, keep(0, 2), api.Elem{From: 2, To: 4, Text: "x"}),
		of(4, put(long(api.MaxText)), keep(0, 4)),
		each(api.MaxElems + 1),
	}
	for _, d := range bad {
		if delta.Is(d) {
			t.Fatalf("%v is a delta", d)
		}
		for _, at := range []int{math.MinInt, -1, 0, 1, 2, 3, 4, 5, api.MaxText, math.MaxInt} {
			if Move(d, at, false) != 0 || Move(d, at, true) != 0 || Back(d, at) != 0 || Stays(d, at) {
				t.Errorf("P14.1: of no delta over %d bytes, at %d: %d, %d, %d, %v", d.Base, at, Move(d, at, false), Move(d, at, true), Back(d, at), Stays(d, at))
			}
			for _, i := range []api.Interval{span(0, at), span(at, 4), span(at, at), span(at, math.MinInt)} {
				if got := Interval(d, i); got != (api.Interval{}) {
					t.Errorf("P14.2: of no delta over %d bytes, %v: %v", d.Base, i, got)
				}
			}
		}
	}
}

// each is a delta of n elements: texts, and copies of one byte, of which one in
// two goes.
func each(n int) api.Delta {
	d := of(2 * n)
	for i := range n {
		if i%2 == 0 {
			d.Elems = append(d.Elems, put("é"))
		} else {
			d.Elems = append(d.Elems, keep(2*i, 2*i+1))
		}
	}
	return d
}

// At the limits.
func TestLimits(t *testing.T) {
	const most = api.MaxText
	for _, d := range []api.Delta{
		each(api.MaxElems),
		delta.Keep(most),
		of(most),
		of(most, put(long(most))),
		of(0, put(long(most))),
		of(most, keep(1, most), put("x")),
		of(most, put("x"), keep(0, most-1)),
		of(most, keep(0, most/2), put(long(most/2))),
	} {
		if !delta.Is(d) {
			t.Fatalf("%d elements over %d bytes are no delta", len(d.Elems), d.Base)
		}
		for _, at := range []int{-1, 0, 1, 2, 3, 59, 60, 61, 118, 119, 120, most/2 - 1, most / 2, most/2 + 1, most - 1, most, most + 1} {
			checkPlace(t, d, at)
			checkInterval(t, d, span(0, at))
			checkInterval(t, d, span(at, most))
		}
	}
}

// isMarked tells of each byte that d makes whether it is in the interval.
func isMarked(d api.Delta, i api.Interval) []bool {
	marked := make([]bool, delta.Size(d))
	for at := i.From; at < i.To; at++ {
		marked[at] = true
	}
	return marked
}

// checkMarked fails unless what is marked by i, and nothing else that is kept,
// is marked still; what is put in is so, if it is between two such bytes.
func checkMarked(t *testing.T, d api.Delta, i api.Interval) {
	t.Helper()
	row := cells(d)
	is := func(place int) bool { return i.From <= place && place < i.To }
	first, last := len(row), -1
	for at, place := range row {
		if place >= 0 && is(place) {
			first, last = min(first, at), at
		}
	}
	for at, got := range isMarked(d, Interval(d, i)) {
		want := first <= at && at <= last
		if row[at] >= 0 {
			want = is(row[at])
		}
		if got != want {
			t.Fatalf("P14.3: %v, %v: byte %d of what is made: %v", d, i, at, got)
		}
	}
}

func TestMarkedStaysMarked(t *testing.T) {
	for base := range 5 {
		every(t, base, []string{"", "x", "é"}, func(d api.Delta) {
			for from := range base + 1 {
				for to := from; to <= base; to++ {
					checkMarked(t, d, span(from, to))
				}
			}
		})
	}
	r := rand.New(rand.NewSource(142))
	for range 300 {
		base := r.Intn(300)
		d := some(r, base, 29)
		for range 10 {
			from := r.Intn(base + 1)
			checkMarked(t, d, span(from, from+r.Intn(base-from+1)))
		}
	}
}

// A byte that is kept goes there and back, and so does a place of it.
func TestThereAndBack(t *testing.T) {
	every(t, 4, []string{"", "x", "é"}, func(d api.Delta) {
		for at := range d.Base {
			there := Move(d, at, true)
			if Stays(d, at) && Back(d, there) != at {
				t.Fatalf("P14.3: %v, %d: goes to %d, comes from %d", d, at, there, Back(d, there))
			}
			if Stays(d, at) && Interval(d, span(at, at+1)) != span(there, there+1) {
				t.Fatalf("P14.3: %v, %d: %v, want %d", d, at, Interval(d, span(at, at+1)), there)
			}
		}
	})
}

// What is marked is marked again when a change is taken back, if the change
// didn't reach into it.
func TestMarkedText(t *testing.T) {
	s := "the quick brown fox"
	marked := span(4, 15)
	for _, c := range []struct {
		what string
		l    []api.Change
		want string
	}{
		{"nothing", nil, "quick brown"},
		{"ahead of it", []api.Change{{From: 0, To: 3, Text: "a very"}}, "quick brown"},
		{"up to it", []api.Change{{From: 3, To: 4, Text: "é"}}, "quick brown"},
		{"at its beginning", []api.Change{{From: 4, To: 4, Text: "so "}}, "quick brown"},
		{"at its end", []api.Change{{From: 15, To: 15, Text: "ish"}}, "quick brown"},
		{"behind it", []api.Change{{From: 16, To: 19, Text: "dog"}}, "quick brown"},
		{"in it", []api.Change{{From: 9, To: 9, Text: ", small"}}, "quick, small brown"},
		{"out of it", []api.Change{{From: 9, To: 15}}, "quick"},
		{"into it", []api.Change{{From: 0, To: 10, Text: "a "}}, "brown"},
		{"all of it", []api.Change{{From: 4, To: 15, Text: "red"}}, ""},
		{"more than it", []api.Change{{From: 3, To: 16, Text: "-"}}, ""},
	} {
		d, err := delta.Build(len(s), c.l)
		if err != api.OK {
			t.Fatal(err)
		}
		made, _ := delta.Apply(d, s)
		i := Interval(d, marked)
		if got := made[i.From:i.To]; got != c.want {
			t.Errorf("P14.3: %s: %q, want %q", c.what, got, c.want)
		}
		back, err := compose.Invert(d, s)
		if err != api.OK {
			t.Fatal(err)
		}
		again := Interval(back, i)
		if c.want == s[marked.From:marked.To] && again != marked {
			t.Errorf("P14.3: %s, taken back: %v, want %v", c.what, again, marked)
		}
	}
}

// What is handed in, the room behind it too, is neither changed nor kept.
func TestMemory(t *testing.T) {
	room := []api.Elem{put("x"), keep(0, 2), put("é"), keep(3, 5), keep(-7, -7)}
	given := slices.Clone(room)
	d := of(6, room[:4]...)
	for at := -1; at < 10; at++ {
		checkPlace(t, d, at)
		checkInterval(t, d, span(at, 5))
	}
	if !slices.Equal(room, given) {
		t.Fatalf("P14.1: %v has become %v", given, room)
	}
	room[0], room[2] = put("xyz"), put("y")
	for at := -1; at < 10; at++ {
		checkPlace(t, d, at)
	}
}
