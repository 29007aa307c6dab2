package breaks

import (
	"math"
	"math/rand"
	"slices"
	"strings"
	"testing"

	"palinode/api"
	"palinode/delta"
)

func list(l ...int) []int                    { return l }
func put(s string) api.Elem                  { return api.Elem{Text: s} }
func keep(from, to int) api.Elem             { return api.Elem{From: from, To: to} }
func from(base int, e ...api.Elem) api.Delta { return api.Delta{Base: base, Elems: e} }

// stepped are n places, the first one and each behind it further by step.
func stepped(n, first, step int) []int {
	var l []int
	for i := range n {
		l = append(l, first+i*step)
	}
	return l
}

// cells are the bytes that d makes: each by its own place in Base, or -1, if it
// was put in.
func cells(d api.Delta) []int {
	var row []int
	for _, e := range d.Elems {
		for at := e.From; at < e.To; at++ {
			row = append(row, at)
		}
		for range len(e.Text) {
			row = append(row, -1)
		}
	}
	return row
}

// wantIs tells what P16.1 says.
func wantIs(l []int, n int) bool {
	if n > api.MaxText {
		n = api.MaxText
	}
	for i, at := range l {
		if at <= 0 || at >= n || i > 0 && at <= l[i-1] {
			return false
		}
	}
	return len(l) <= api.MaxSpans
}

// wantPut tells what P16.1 says.
func wantPut(l []int, at int) ([]int, api.Errno) {
	switch {
	case !wantIs(l, api.MaxText), at <= 0, at >= api.MaxText:
		return nil, api.ErrForm
	case slices.Contains(l, at):
		return l, api.OK
	case len(l) >= api.MaxSpans:
		return nil, api.ErrMany
	}
	more := append(slices.Clone(l), at)
	slices.Sort(more)
	return more, api.OK
}

// wantTake tells what P16.1 says.
func wantTake(l []int, at int) ([]int, api.Errno) {
	var left []int
	taken := 0
	for _, b := range l {
		if b == at && taken == 0 {
			taken++
			continue
		}
		left = append(left, b)
	}
	if taken == 0 {
		return nil, api.ErrRange
	}
	return left, api.OK
}

// wantLine tells what P16.1 says.
func wantLine(l []int, at int) int {
	n := 0
	for i := range l {
		if l[i] <= at {
			n++
		}
	}
	return n
}

// wantEdit tells, byte by byte, what P16.2 says: a break goes behind the last
// byte ahead of it that is kept.
func wantEdit(l []int, d api.Delta) []int {
	made := cells(d)
	var want []int
	for _, at := range l {
		to := 0
		for i, place := range made {
			if place >= 0 && place < at {
				to = i + 1
			}
		}
		if to != 0 && to != len(made) && !slices.Contains(want, to) {
			want = append(want, to)
		}
	}
	return want
}

// wantWrap tells what P16.2 says of a text that is Valid, line by line: each is
// filled as far as there is room.
func wantWrap(s string, width int) []int {
	var want []int
	ahead := 0
	for _, line := range strings.SplitAfter(s, "\n") {
		room := width
		for at, r := range line {
			size := len(string(r))
			if size > room {
				want = append(want, ahead+at)
				room = width
			}
			room -= size
		}
		ahead += len(line)
	}
	return want[:min(len(want), api.MaxSpans)]
}

// same tells whether an answer is as wanted; beside an error there is nothing.
func same(got []int, err api.Errno, want []int, wantErr api.Errno) bool {
	return err == wantErr && slices.Equal(got, want) && (err == api.OK || len(got) == 0)
}

// checkRow holds the calls of P16.1 against the chapter's words.
func checkRow(t *testing.T, l []int, at int) {
	t.Helper()
	got, err := Put(l, at)
	if want, wantErr := wantPut(l, at); !same(got, err, want, wantErr) {
		t.Fatalf("P16.1: Put(%v, %d): %v, %v, want %v, %v", l, at, got, err, want, wantErr)
	}
	got, err = Take(l, at)
	if want, wantErr := wantTake(l, at); !same(got, err, want, wantErr) {
		t.Fatalf("P16.1: Take(%v, %d): %v, %v, want %v, %v", l, at, got, err, want, wantErr)
	}
	if got, want := Line(l, at), wantLine(l, at); got != want {
		t.Fatalf("P16.1: Line(%v, %d): %d, want %d", l, at, got, want)
	}
}

// checkEdit holds Edit against the chapter's words, and against what layer 16 is
// for.
func checkEdit(t *testing.T, l []int, d api.Delta) []int {
	t.Helper()
	want := wantEdit(l, d)
	got, err := Edit(l, d)
	if !same(got, err, want, api.OK) {
		t.Fatalf("P16.2: Edit(%v, %v): %v, %v, want %v", l, d, got, err, want)
	}
	if !Is(got, delta.Size(d)) {
		t.Fatalf("P16.2: Edit(%v, %v): %v isn't Is", l, d, got)
	}
	checkLines(t, l, got, cells(d))
	return got
}

// checkLines fails unless the bytes that are kept beside one another, or with
// others between that were put in or aren't kept, are in one line just if they
// were.
func checkLines(t *testing.T, was, is []int, made []int) {
	t.Helper()
	last := -1
	for i, place := range made {
		if place < 0 {
			continue
		}
		if last >= 0 && (Line(was, made[last]) == Line(was, place)) != (Line(is, last) == Line(is, i)) {
			t.Fatalf("P16.3: broken at %v, then at %v: bytes %d and %d, now %d and %d", was, is, made[last], place, last, i)
		}
		last = i
	}
}

// checkWrap holds Wrap of a text that is Valid against the chapter's words.
func checkWrap(t *testing.T, s string, width int) []int {
	t.Helper()
	want := wantWrap(s, width)
	got, err := Wrap(s, width)
	if !same(got, err, want, api.OK) {
		t.Fatalf("P16.2: Wrap(%q, %d): %v, %v, want %v", s, width, got, err, want)
	}
	if !Is(got, len(s)) {
		t.Fatalf("P16.2: Wrap(%q, %d): %v isn't Is", s, width, got)
	}
	return got
}

// everyList calls f with each list of up to most numbers, each of these.
func everyList(most int, numbers []int, f func(l []int)) {
	var fill func(l []int)
	fill = func(l []int) {
		f(slices.Clone(l))
		if len(l) == most {
			return
		}
		for _, at := range numbers {
			fill(append(l, at))
		}
	}
	fill(nil)
}

// everyDelta calls f with each delta over a text of base bytes whose texts are
// of these.
func everyDelta(base int, texts []string, f func(d api.Delta)) {
	var fill func(at int, elems []api.Elem)
	fill = func(at int, elems []api.Elem) {
		for _, s := range texts {
			next := slices.Clone(elems)
			if s != "" {
				next = append(next, put(s))
			}
			f(from(base, slices.Clone(next)...))
			for begin := at; begin < base; begin++ {
				// It would be part of the copy ahead of it.
				if s == "" && begin == at && at > 0 {
					continue
				}
				for end := begin + 1; end <= base; end++ {
					fill(end, append(slices.Clone(next), keep(begin, end)))
				}
			}
		}
	}
	fill(0, nil)
}

// All lists of up to four places, most of them no breaks, by all places.
func TestEveryRow(t *testing.T) {
	everyList(4, stepped(6, -1, 1), func(l []int) {
		for at := -2; at <= 5; at++ {
			checkRow(t, l, at)
			if got, want := Is(l, at), wantIs(l, at); got != want {
				t.Fatalf("P16.1: Is(%v, %d): %v", l, at, got)
			}
		}
	})
}

// All breaks of up to five bytes by all deltas over them.
func TestEveryEdit(t *testing.T) {
	for n := range 6 {
		var all [][]int
		everyList(n, stepped(n, 0, 1), func(l []int) {
			if wantIs(l, n) {
				all = append(all, l)
			}
		})
		everyDelta(n, []string{"", "x"}, func(d api.Delta) {
			if !delta.Is(d) {
				t.Fatalf("%v is no delta", d)
			}
			for _, l := range all {
				checkEdit(t, l, d)
			}
		})
	}
}

// All texts of up to six of these code points, of all sizes and with line ends.
func TestEveryWrap(t *testing.T) {
	points := []string{"a", "é", "\u20ac", "\U0001f600", "\n"}
	var fill func(s string, left int)
	fill = func(s string, left int) {
		for width := 4; width <= 9; width++ {
			checkWrap(t, s, width)
		}
		for _, p := range points {
			if left > 0 {
				fill(s+p, left-1)
			}
		}
	}
	fill("", 6)
}

// some is a delta over a text of base bytes.
func some(r *rand.Rand, base, most int) api.Delta {
	var l []api.Change
	at := 0
	for range r.Intn(most + 1) {
		begin := at + r.Intn(min(base-at, 40)+1)
		end := begin + r.Intn(min(base-begin, 12)+1)
		l = append(l, api.Change{From: begin, To: end, Text: []string{"", "x", "é", "\U0001f600 yz"}[r.Intn(4)]})
		if at = end + 1; at > base {
			break
		}
	}
	d, _ := delta.Build(base, l)
	return d
}

func TestSomeLong(t *testing.T) {
	r := rand.New(rand.NewSource(161))
	for range 300 {
		n := 2 + r.Intn(400)
		var l []int
		for range 80 {
			at := 1 + r.Intn(n-1)
			checkRow(t, l, at)
			if r.Intn(5) == 0 {
				at = append(l, at)[r.Intn(len(l)+1)]
				l, _ = wantTake(l, at)
			} else if more, err := wantPut(l, at); err == api.OK {
				l = more
			}
		}
		for range 6 {
			d := some(r, n, 25)
			l, n = checkEdit(t, l, d), delta.Size(d)
		}
	}
}

func TestSomeLongWrap(t *testing.T) {
	r := rand.New(rand.NewSource(162))
	points := []string{"a", "é", "\u20ac", "\U0001f600", "\r", "\u2028", "\x00", "\ufffd", "\U0010ffff", "\u0080", "\ud7ff"}
	for range 400 {
		var s strings.Builder
		for range r.Intn(500) {
			if r.Intn(30) == 0 {
				s.WriteString("\n")
			}
			s.WriteString(points[r.Intn(len(points))])
		}
		for _, width := range []int{4, 5, 8, 21, 80, 600, 4000} {
			checkWrap(t, s.String(), width)
		}
	}
}

// What is wrapped is wrapped as before, where it hasn't changed.
func TestWrapThenEdit(t *testing.T) {
	l := checkWrap(t, "the quick brown fox\njumps", 8)
	d := from(25, keep(0, 4), put("very "), keep(4, 25))
	if got := checkEdit(t, l, d); !slices.Equal(l, list(8, 16)) || !slices.Equal(got, list(13, 21)) {
		t.Errorf("P16.3: %v, then %v", l, got)
	}
}

func TestIsRows(t *testing.T) {
	const most = api.MaxText
	for _, c := range []struct {
		what string
		l    []int
		n    int
		want bool
	}{
		{"none, of no text", nil, 0, true},
		{"none, of less than none", list(), math.MinInt, true},
		{"the first place", list(1), 2, true},
		{"the last place", list(4), 5, true},
		{"the beginning", list(0), 5, false},
		{"the end", list(5), 5, false},
		{"behind the end", list(6), 5, false},
		{"ahead of the beginning", list(-1), 5, false},
		{"far ahead", list(math.MinInt), 5, false},
		{"far behind", list(math.MaxInt), math.MaxInt, false},
		{"in less than no text", list(1), math.MinInt, false},
		{"all places", list(1, 2, 3, 4), 5, true},
		{"one twice", list(1, 2, 2, 4), 5, false},
		{"falling", list(1, 3, 2, 4), 5, false},
		{"the last one falling", list(2, 3, 1), 5, false},
		{"the last one behind the end", list(2, 3, 6), 5, false},
		{"the first one at the beginning", list(0, 1), 5, false},
		{"below the limit", list(most - 1), most, true},
		{"below the limit, of more", list(most - 1), math.MaxInt, true},
		{"at the limit, of more", list(most), most + 1, false},
		{"at the limit, of the most", list(most), math.MaxInt, false},
		{"as many as there may be", stepped(api.MaxSpans, 1, 1), api.MaxSpans + 1, true},
		{"one more than that", stepped(api.MaxSpans+1, 1, 1), api.MaxSpans + 2, false},
	} {
		if got := Is(c.l, c.n); got != c.want {
			t.Errorf("P16.1: %s: %v", c.what, got)
		}
	}
}

// wrong are lists that are breaks of no text.
func wrong() [][]int {
	return [][]int{
		list(0), list(-1), list(math.MinInt), list(api.MaxText), list(math.MaxInt),
		list(2, 2), list(3, 2), list(1, 2, 0), list(5, api.MaxText), list(0, 5),
		stepped(api.MaxSpans+1, 1, 1), stepped(api.MaxSpans+1, 1, 0),
	}
}

func TestPutRows(t *testing.T) {
	full := stepped(api.MaxSpans, 10, 10)
	none, nearly := list(), slices.Clone(full[1:])
	for _, c := range []struct {
		what string
		l    []int
		at   int
		want []int
		err  api.Errno
	}{
		{"the first one", none, 3, list(3), api.OK},
		{"the least place", none, 1, list(1), api.OK},
		{"the last place", none, api.MaxText - 1, list(api.MaxText - 1), api.OK},
		{"ahead of all", list(3, 5), 2, list(2, 3, 5), api.OK},
		{"between", list(3, 5), 4, list(3, 4, 5), api.OK},
		{"behind all", list(3, 5), 6, list(3, 5, 6), api.OK},
		{"the first one again", list(3, 5), 3, list(3, 5), api.OK},
		{"the last one again", list(3, 5), 5, list(3, 5), api.OK},
		{"the last one that there may be", nearly, 10, full, api.OK},
		{"one too many, ahead", full, 9, nil, api.ErrMany},
		{"one too many, between", full, 15, nil, api.ErrMany},
		{"one too many, behind", full, 10*api.MaxSpans + 1, nil, api.ErrMany},
		{"of the most one again", full, 20, full, api.OK},
		{"the beginning", none, 0, nil, api.ErrForm},
		{"ahead of it", none, -1, nil, api.ErrForm},
		{"far ahead", none, math.MinInt, nil, api.ErrForm},
		{"the end", none, api.MaxText, nil, api.ErrForm},
		{"far behind", none, math.MaxInt, nil, api.ErrForm},
		{"the beginning, of the most", full, 0, nil, api.ErrForm},
		{"the end, of the most", full, api.MaxText, nil, api.ErrForm},
	} {
		if got, err := Put(c.l, c.at); !same(got, err, c.want, c.err) {
			t.Errorf("P16.1: %s: %v, %v", c.what, got, err)
		}
	}
	for _, l := range wrong() {
		for _, at := range []int{1, 4, 0, l[0]} {
			if got, err := Put(l, at); len(got) != 0 || err != api.ErrForm {
				t.Errorf("P16.1: %d in %v: %v, %v", at, l, got, err)
			}
		}
	}
}

func TestTakeRows(t *testing.T) {
	for _, c := range []struct {
		what string
		l    []int
		at   int
		want []int
		err  api.Errno
	}{
		{"the only one", list(3), 3, nil, api.OK},
		{"the first one", list(3, 5, 7), 3, list(5, 7), api.OK},
		{"one between", list(3, 5, 7), 5, list(3, 7), api.OK},
		{"the last one", list(3, 5, 7), 7, list(3, 5), api.OK},
		{"not there", list(3, 5, 7), 4, nil, api.ErrRange},
		{"of none", nil, 4, nil, api.ErrRange},
		{"the first one of many", list(5, 3, 5, 3), 3, list(5, 5, 3), api.OK},
		{"out of order", list(9, 7, 5, 3), 9, list(7, 5, 3), api.OK},
		{"what no break is", list(-1, 0, math.MaxInt), math.MaxInt, list(-1, 0), api.OK},
		{"of too many", stepped(api.MaxSpans+1, 0, 1), 0, stepped(api.MaxSpans, 1, 1), api.OK},
	} {
		if got, err := Take(c.l, c.at); !same(got, err, c.want, c.err) {
			t.Errorf("P16.1: %s: %v, %v", c.what, got, err)
		}
	}
}

func TestLineRows(t *testing.T) {
	for _, c := range []struct {
		what     string
		l        []int
		at, want int
	}{
		{"of none", nil, 5, 0},
		{"in the first line", list(3, 5), 2, 0},
		{"ahead of all", list(3, 5), math.MinInt, 0},
		{"where the second one begins", list(3, 5), 3, 1},
		{"in the second one", list(3, 5), 4, 1},
		{"where the last one begins", list(3, 5), 5, 2},
		{"behind all", list(3, 5), math.MaxInt, 2},
		{"out of order", list(5, 3, 3, -1), 4, 3},
		{"of too many", stepped(300, 1, 1), 299, 299},
		{"of the widest", list(math.MaxInt, math.MinInt), math.MaxInt, 2},
	} {
		if got := Line(c.l, c.at); got != c.want {
			t.Errorf("P16.1: %s: %d", c.what, got)
		}
	}
}

func TestEditRows(t *testing.T) {
	const most = api.MaxText
	l := list(2, 4, 6, 9)
	for _, c := range []struct {
		what string
		l    []int
		d    api.Delta
		want []int
	}{
		{"of none", nil, delta.Keep(10), nil},
		{"of no text", nil, from(0), nil},
		{"all is kept", l, delta.Keep(10), l},
		{"a text at a break goes behind it", l, from(10, keep(0, 4), put("xx"), keep(4, 10)), list(2, 4, 8, 11)},
		{"a text ahead of all", l, from(10, put("x"), keep(0, 10)), list(3, 5, 7, 10)},
		{"a text behind all", l, from(10, keep(0, 10), put("x")), l},
		{"those together are one", l, from(10, keep(0, 3), keep(7, 10)), list(2, 3, 5)},
		{"those at the beginning go", l, from(10, keep(4, 10)), list(2, 5)},
		{"also with a text there", l, from(10, put("xyz"), keep(4, 10)), list(5, 8)},
		{"those at the end go", l, from(10, keep(0, 5)), list(2, 4)},
		{"a text there keeps one", l, from(10, keep(0, 5), put("x")), list(2, 4, 5)},
		{"the last byte goes", l, from(10, keep(0, 9)), list(2, 4, 6)},
		{"all goes", l, from(10), nil},
		{"a text in place of all", l, from(10, put("xyz")), nil},
		{"one byte is left", l, from(10, keep(4, 5)), nil},
		{"the longest", list(1, most-1), delta.Keep(most), list(1, most-1)},
		{"as long as there may be then", list(1), from(2, keep(0, 1), put(strings.Repeat("x", most-2)), keep(1, 2)), list(1)},
		{"behind all that may be put in", list(1), from(2, put(strings.Repeat("x", most-2)), keep(0, 2)), list(most - 1)},
		{"the most", stepped(api.MaxSpans, 1, 1), from(api.MaxSpans+1, put("x"), keep(0, api.MaxSpans+1)), stepped(api.MaxSpans, 2, 1)},
	} {
		if got, err := Edit(c.l, c.d); !same(got, err, c.want, api.OK) {
			t.Errorf("P16.2: %s: %v, %v", c.what, got, err)
		}
	}
}

func TestEditErrors(t *testing.T) {
	one := list(3)
	for _, d := range []api.Delta{
		from(-1), from(api.MaxText + 1), from(3), delta.Keep(3), delta.Keep(0), from(3, put("xyz"), keep(0, 3)),
		from(4, keep(0, 5)), from(4, keep(2, 2)), from(4, keep(0, 2), keep(2, 4)), from(4, put("x"), put("y")),
		from(4, put("\xff")), from(4, api.Elem{}), from(4, keep(2, 4), keep(0, 2)),
		from(4, put(strings.Repeat("x", api.MaxText+1))), from(math.MaxInt, keep(0, math.MaxInt)),
	} {
		if got, err := Edit(one, d); len(got) != 0 || err != api.ErrForm {
			t.Errorf("P16.2: by a delta over %d: %v, %v", d.Base, got, err)
		}
	}
	for _, d := range []api.Delta{from(-1), from(4, api.Elem{}), from(4, put("\xff"))} {
		if got, err := Edit(nil, d); len(got) != 0 || err != api.ErrForm {
			t.Errorf("P16.2: of none by a delta over %d: %v, %v", d.Base, got, err)
		}
	}
	for _, l := range wrong() {
		// Also where all of them would go.
		for _, d := range []api.Delta{delta.Keep(api.MaxText), from(api.MaxText)} {
			if got, err := Edit(l, d); len(got) != 0 || err != api.ErrForm {
				t.Errorf("P16.2: of %v: %v, %v", l, got, err)
			}
		}
	}
}

func TestWrapRows(t *testing.T) {
	const most = api.MaxSpans
	for _, c := range []struct {
		what  string
		s     string
		width int
		want  []int
	}{
		{"nothing", "", 4, nil},
		{"the example", "abcdefgh", 4, list(4)},
		{"as wide as there is room", "abcd", 4, nil},
		{"one more", "abcde", 4, list(4)},
		{"a line end", "abc\ndefgh", 4, list(8)},
		{"a line end has a byte, too", "abcd\nefgh", 4, list(4)},
		{"just a line end", "\n", 4, nil},
		{"many of them", strings.Repeat("\n", 20), 4, nil},
		{"behind one it is none again", "abc\nabcd", 4, nil},
		{"another end of a line is none", "abc\rd", 4, list(4)},
		{"two bytes", "aaaé", 4, list(3)},
		{"three bytes", "a\u20acb\u20ac\u20ac", 4, list(4, 8)},
		{"four bytes", "\U0001f600\U0001f600", 4, list(4)},
		{"four bytes, a wider line", "a\U0001f600\U0001f600", 7, list(5)},
		{"the first and last of a size", "\x00\x7f\u0080\u07ff\u0800\uffff\U00010000\U0010ffff", 4, list(4, 6, 9, 12, 16)},
		{"the replacement is a point as others", "ab\ufffd", 4, list(2)},
		{"the widest", strings.Repeat("x", 1000), math.MaxInt, nil},
		{"just the most", strings.Repeat("x", 4*most+4), 4, stepped(most, 4, 4)},
		{"the first of more", strings.Repeat("x", 4*most+5), 4, stepped(most, 4, 4)},
		{"one less", strings.Repeat("x", 4*most), 4, stepped(most-1, 4, 4)},
		{"line ends behind the most", strings.Repeat("x", 4*most+3) + "\nabcdefgh\nabcdefgh", 4, stepped(most, 4, 4)},
		{"the longest text", strings.Repeat("x", api.MaxText), api.MaxText - 1, list(api.MaxText - 1)},
		{"in its width", strings.Repeat("x", api.MaxText), api.MaxText, nil},
	} {
		if got, err := Wrap(c.s, c.width); !same(got, err, c.want, api.OK) {
			t.Errorf("P16.2: %s: %v, %v", c.what, got, err)
		}
	}
}

func TestWrapErrors(t *testing.T) {
	for _, width := range []int{3, 1, 0, -1, math.MinInt} {
		for _, s := range []string{"", "a", "abcdefgh", "\xff"} {
			if got, err := Wrap(s, width); len(got) != 0 || err != api.ErrForm {
				t.Errorf("P16.2: %q, of width %d: %v, %v", s, width, got, err)
			}
		}
	}
	long := strings.Repeat("x", 1000)
	for _, s := range []string{"\xff", "ab\x80", "\xe2\x82", "\xed\xa0\x80", "\xc0\x80", "\xf4\x90\x80\x80", long + "\xff", "\xff" + long} {
		for _, width := range []int{4, 80, math.MaxInt} {
			if got, err := Wrap(s, width); len(got) != 0 || err != api.ErrForm {
				t.Errorf("P16.2: no text, of width %d: %v, %v", width, got, err)
			}
		}
	}
}

// What is handed in stays as it is, its spare room too; what is answered is new.
func TestMemory(t *testing.T) {
	const mark = -99
	whole := list(2, 4, 6, 9, mark, mark, mark, mark)
	l := whole[:4]
	d := from(10, keep(0, 3), put("xyz"), keep(5, 10))
	answers := func() [][]int {
		ahead, _ := Put(l, 1)
		there, _ := Put(l, 4)
		behind, _ := Put(l, 10)
		first, _ := Take(l, 2)
		last, _ := Take(l, 9)
		edit, _ := Edit(l, d)
		stay, _ := Edit(l, delta.Keep(10))
		wrap, _ := Wrap("abcdefghijkl", 4)
		return [][]int{ahead, there, behind, first, last, edit, stay, wrap}
	}
	first, again := answers(), answers()
	for i, got := range again {
		for j := range got[:cap(got)] {
			got[:cap(got)][j] = mark
		}
		for j, other := range first {
			if slices.Contains(other, mark) {
				t.Fatalf("answers %d and %d share memory", i, j)
			}
		}
	}
	if !slices.Equal(whole, list(2, 4, 6, 9, mark, mark, mark, mark)) {
		t.Errorf("what was handed in is changed: %v", whole)
	}
	for i, got := range answers() {
		if !slices.Equal(got, first[i]) {
			t.Errorf("answer %d hangs on an earlier one", i)
		}
	}
}
