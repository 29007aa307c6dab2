package spans

import (
	"math"
	"math/rand"
	"slices"
	"strings"
	"testing"

	"palinode/api"
	"palinode/delta"
)

func of(from, to, style int) api.Span        { return api.Span{From: from, To: to, Style: style} }
func list(l ...api.Span) []api.Span          { return l }
func put(s string) api.Elem                  { return api.Elem{Text: s} }
func keep(from, to int) api.Elem             { return api.Elem{From: from, To: to} }
func from(base int, e ...api.Elem) api.Delta { return api.Delta{Base: base, Elems: e} }

// styled are n bytes, each by its style.
func styled(l []api.Span, n int) []int {
	row := make([]int, n)
	for _, s := range l {
		paint(row, s)
	}
	return row
}

// paint gives s's bytes of row its style.
func paint(row []int, s api.Span) {
	for at := s.From; at < s.To; at++ {
		row[at] = s.Style
	}
}

// fewest are the spans of bytes that are told by their styles.
func fewest(row []int) []api.Span {
	var l []api.Span
	for from := 0; from < len(row); {
		to := from + 1
		for to < len(row) && row[to] == row[from] {
			to++
		}
		if row[from] != 0 {
			l = append(l, of(from, to, row[from]))
		}
		from = to
	}
	return l
}

// cells are the bytes that d makes: each by its own place in Base, or -1, if it
// was put in.
func cells(d api.Delta) []int {
	var row []int
	for _, e := range d.Elems {
		for at := e.From; at < e.To; at++ {
			row = append(row, at)
		}
		for range len(e.Text) {
			row = append(row, -1)
		}
	}
	return row
}

// wantEdit tells, byte by byte, what P15.2 says: a span goes from the first of
// its bytes that are kept to the last one.
func wantEdit(l []api.Span, d api.Delta) []api.Span {
	made := cells(d)
	row := make([]int, len(made))
	for _, s := range l {
		first, last := -1, -1
		for i, place := range made {
			if place >= s.From && place < s.To {
				if first < 0 {
					first = i
				}
				last = i
			}
		}
		if first >= 0 {
			paint(row, of(first, last+1, s.Style))
		}
	}
	return fewest(row)
}

// wantIs tells what P15.1 says.
func wantIs(l []api.Span, n int) bool {
	n = min(n, api.MaxText)
	for i, s := range l {
		if s.Style < 1 || s.Style > api.MaxStyle || s.From < 0 || s.From >= s.To || s.To > n {
			return false
		}
		if i > 0 && (s.From < l[i-1].To || s.From == l[i-1].To && s.Style == l[i-1].Style) {
			return false
		}
	}
	return len(l) <= api.MaxSpans
}

// wantAt tells what P15.1 says.
func wantAt(l []api.Span, at int) int {
	for _, s := range l {
		if s.From <= at && at < s.To {
			return s.Style
		}
	}
	return 0
}

// wantIn tells, byte by byte, what P15.2 says.
func wantIn(l []api.Span, i api.Interval) []api.Span {
	var want []api.Span
	for _, s := range l {
		first, last := math.MaxInt, math.MinInt
		for at := s.From; at < s.To; at++ {
			if i.From <= at && at < i.To {
				first, last = min(first, at), max(last, at)
			}
		}
		if first <= last {
			want = append(want, of(first, last+1, s.Style))
		}
	}
	return want
}

// every gives all styles of n bytes, each in the fewest spans.
func every(n, styles int) [][]api.Span {
	var all [][]api.Span
	row := make([]int, n)
	var fill func(at int)
	fill = func(at int) {
		if at == n {
			all = append(all, fewest(row))
			return
		}
		for row[at] = 0; row[at] <= styles; row[at]++ {
			fill(at + 1)
		}
	}
	fill(0)
	return all
}

// everyDelta calls f with each delta over a text of base bytes whose texts are
// of these.
func everyDelta(base int, texts []string, f func(d api.Delta)) {
	var fill func(at int, elems []api.Elem)
	fill = func(at int, elems []api.Elem) {
		for _, s := range texts {
			next := slices.Clone(elems)
			if s != "" {
				next = append(next, put(s))
			}
			f(from(base, slices.Clone(next)...))
			for begin := at; begin < base; begin++ {
				// It would be part of the copy ahead of it.
				if s == "" && begin == at && at > 0 {
					continue
				}
				for end := begin + 1; end <= base; end++ {
					fill(end, append(slices.Clone(next), keep(begin, end)))
				}
			}
		}
	}
	fill(0, nil)
}

// striped are n spans of one byte each, with one between them.
func striped(n, style int) []api.Span {
	var l []api.Span
	for i := range n {
		l = append(l, of(2*i, 2*i+1, style))
	}
	return l
}

// checkPut holds Put upon styles of n bytes against the chapter's words.
func checkPut(t *testing.T, l []api.Span, s api.Span, n int) []api.Span {
	t.Helper()
	row := styled(l, n)
	paint(row, s)
	want := fewest(row)
	got, err := Put(l, s)
	if err != api.OK || !slices.Equal(got, want) {
		t.Fatalf("P15.1: Put(%v, %v): %v, %v, want %v", l, s, got, err, want)
	}
	if !Is(got, n) {
		t.Fatalf("P15.1: Put(%v, %v): %v isn't Is", l, s, got)
	}
	return got
}

// checkAt holds At against the chapter's words.
func checkAt(t *testing.T, l []api.Span, at int) {
	t.Helper()
	if got, want := At(l, at), wantAt(l, at); got != want {
		t.Fatalf("P15.1: At(%v, %d): %d, want %d", l, at, got, want)
	}
}

// checkIn holds In against the chapter's words.
func checkIn(t *testing.T, l []api.Span, i api.Interval) {
	t.Helper()
	if got, want := In(l, i), wantIn(l, i); !slices.Equal(got, want) {
		t.Fatalf("P15.2: In(%v, %v): %v, want %v", l, i, got, want)
	}
}

// checkEdit holds Edit against the chapter's words, and against what layer 15 is
// for.
func checkEdit(t *testing.T, l []api.Span, d api.Delta) []api.Span {
	t.Helper()
	want := wantEdit(l, d)
	got, err := Edit(l, d)
	if err != api.OK || !slices.Equal(got, want) {
		t.Fatalf("P15.2: Edit(%v, %v): %v, %v, want %v", l, d, got, err, want)
	}
	if !Is(got, delta.Size(d)) {
		t.Fatalf("P15.2: Edit(%v, %v): %v isn't Is", l, d, got)
	}
	for i, place := range cells(d) {
		if place >= 0 && At(got, i) != At(l, place) {
			t.Fatalf("P15.3: Edit(%v, %v): byte %d, now %d, has style %d, not %d", l, d, place, i, At(got, i), At(l, place))
		}
	}
	return got
}

// checkMerge holds Merge of styles of n bytes against the chapter's words.
func checkMerge(t *testing.T, a, b []api.Span, n int) {
	t.Helper()
	row := styled(a, n)
	for _, s := range b {
		paint(row, s)
	}
	want := fewest(row)
	if got, err := Merge(a, b); err != api.OK || !slices.Equal(got, want) {
		t.Fatalf("P15.2: Merge(%v, %v): %v, %v, want %v", a, b, got, err, want)
	}
}

// All styles of up to five bytes, and all that may be put upon them.
func TestEveryPut(t *testing.T) {
	const n = 5
	for _, l := range every(n, 2) {
		if !Is(l, n) {
			t.Fatalf("P15.1: %v", l)
		}
		for begin := 0; begin <= n; begin++ {
			for end := begin; end <= n; end++ {
				for style := 0; style <= 3; style++ {
					checkPut(t, l, of(begin, end, style), n)
				}
			}
		}
		for at := -2; at <= n+2; at++ {
			checkAt(t, l, at)
		}
		for begin := -2; begin <= n+2; begin++ {
			for end := -2; end <= n+2; end++ {
				checkIn(t, l, api.Interval{From: begin, To: end})
			}
		}
	}
}

// All lists of up to two spans, with wrong ones.
func TestEveryIs(t *testing.T) {
	var all []api.Span
	for begin := -1; begin <= 3; begin++ {
		for end := -1; end <= 3; end++ {
			for _, style := range []int{-1, 0, 1, 2} {
				all = append(all, of(begin, end, style))
			}
		}
	}
	check := func(l []api.Span) {
		for n := -1; n <= 4; n++ {
			if got := Is(l, n); got != wantIs(l, n) {
				t.Fatalf("P15.1: Is(%v, %d): %v", l, n, got)
			}
		}
	}
	check(nil)
	for _, a := range all {
		check(list(a))
		for _, b := range all {
			check(list(a, b))
		}
	}
}

// At and In take all lists, also such as are of no form.
func TestEveryWrong(t *testing.T) {
	var all []api.Span
	for begin := -1; begin <= 3; begin++ {
		for end := -1; end <= 3; end++ {
			all = append(all, of(begin, end, (begin+2)*10+end))
		}
	}
	for _, a := range all {
		for _, b := range all {
			l := list(a, b)
			for at := -2; at <= 4; at++ {
				checkAt(t, l, at)
				for end := -2; end <= 4; end++ {
					checkIn(t, l, api.Interval{From: at, To: end})
				}
			}
		}
	}
}

func TestEveryMerge(t *testing.T) {
	all := every(4, 2)
	for _, a := range all {
		for _, b := range all {
			checkMerge(t, a, b, 4)
		}
	}
}

// All styles of up to four bytes by all deltas over them.
func TestEveryEdit(t *testing.T) {
	for n := range 5 {
		all := every(n, 2)
		everyDelta(n, []string{"", "x"}, func(d api.Delta) {
			if !delta.Is(d) {
				t.Fatalf("%v is no delta", d)
			}
			for _, l := range all {
				checkEdit(t, l, d)
			}
		})
	}
}

// some is a delta over a text of base bytes.
func some(r *rand.Rand, base, most int) api.Delta {
	var l []api.Change
	at := 0
	for range r.Intn(most + 1) {
		begin := at + r.Intn(min(base-at, 40)+1)
		end := begin + r.Intn(min(base-begin, 12)+1)
		l = append(l, api.Change{From: begin, To: end, Text: []string{"", "x", "é", "\U0001f600 yz"}[r.Intn(4)]})
		if at = end + 1; at > base {
			break
		}
	}
	d, _ := delta.Build(base, l)
	return d
}

func TestSomeLong(t *testing.T) {
	r := rand.New(rand.NewSource(151))
	for range 200 {
		n := 1 + r.Intn(400)
		var l, other []api.Span
		for range 20 {
			begin := r.Intn(n + 1)
			l = checkPut(t, l, of(begin, begin+r.Intn(n+1-begin), r.Intn(5)*25), n)
			begin = r.Intn(n + 1)
			other = checkPut(t, other, of(begin, begin+r.Intn(n+1-begin)/4, 1+r.Intn(3)), n)
		}
		checkMerge(t, l, other, n)
		for range 20 {
			checkAt(t, l, r.Intn(n+4)-2)
			checkIn(t, l, api.Interval{From: r.Intn(n+4) - 2, To: r.Intn(n+4) - 2})
		}
		for range 5 {
			d := some(r, n, 25)
			l, n = checkEdit(t, l, d), delta.Size(d)
		}
	}
}

func TestIsRows(t *testing.T) {
	const most = api.MaxText
	for _, c := range []struct {
		what string
		l    []api.Span
		n    int
		want bool
	}{
		{"none, of no text", nil, 0, true},
		{"none, of less than none", list(), math.MinInt, true},
		{"all of it", list(of(0, 5, 1)), 5, true},
		{"one more", list(of(0, 6, 1)), 5, false},
		{"the greatest style", list(of(0, 5, api.MaxStyle)), 5, true},
		{"one above it", list(of(0, 5, api.MaxStyle+1)), 5, false},
		{"the greatest of all", list(of(0, 5, math.MaxInt)), 5, false},
		{"no style", list(of(0, 5, 0)), 5, false},
		{"a style below", list(of(0, 5, -1)), 5, false},
		{"below the text", list(of(-1, 5, 1)), 5, false},
		{"far below", list(of(math.MinInt, math.MaxInt, 1)), math.MaxInt, false},
		{"of no byte", list(of(2, 2, 1)), 5, false},
		{"turned", list(of(3, 2, 1)), 5, false},
		{"touching", list(of(0, 2, 1), of(2, 4, 2)), 5, true},
		{"touching, of the same style", list(of(0, 2, 1), of(2, 4, 1)), 5, false},
		{"apart, of the same style", list(of(0, 2, 1), of(3, 4, 1)), 5, true},
		{"a byte of both", list(of(0, 3, 1), of(2, 4, 2)), 5, false},
		{"out of order", list(of(3, 4, 1), of(0, 2, 2)), 5, false},
		{"within the one ahead", list(of(0, 5, 1), of(1, 2, 2)), 5, false},
		{"the third one wrong", list(of(0, 1, 1), of(1, 2, 2), of(2, 3, 2)), 5, false},
		{"up to the limit", list(of(0, most, 1)), most, true},
		{"up to the limit, of more", list(of(0, most, 1)), math.MaxInt, true},
		{"above the limit", list(of(0, most+1, 1)), most + 1, false},
		{"above the limit, of the most", list(of(0, most+1, 1)), math.MaxInt, false},
		{"as many as there may be", striped(api.MaxSpans, 1), 200, true},
		{"one more than that", striped(api.MaxSpans+1, 1), 200, false},
	} {
		if got := Is(c.l, c.n); got != c.want {
			t.Errorf("P15.1: %s: %v", c.what, got)
		}
	}
}

func TestPutRows(t *testing.T) {
	one := list(of(2, 8, 1))
	two := list(of(0, 3, 1), of(5, 8, 1))
	for _, c := range []struct {
		what string
		l    []api.Span
		s    api.Span
		want []api.Span
	}{
		{"upon nothing", nil, of(1, 2, 7), list(of(1, 2, 7))},
		{"in the middle", one, of(4, 6, 2), list(of(2, 4, 1), of(4, 6, 2), of(6, 8, 1))},
		{"at the beginning", one, of(2, 4, 2), list(of(2, 4, 2), of(4, 8, 1))},
		{"at the end", one, of(6, 8, 2), list(of(2, 6, 1), of(6, 8, 2))},
		{"over it", one, of(0, 10, 2), list(of(0, 10, 2))},
		{"over just it", one, of(2, 8, 2), list(of(2, 8, 2))},
		{"the same style in it", one, of(4, 6, 1), one},
		{"the same style ahead of it", one, of(0, 2, 1), list(of(0, 8, 1))},
		{"the same style behind it", one, of(8, 9, 1), list(of(2, 9, 1))},
		{"the same style between", two, of(3, 5, 1), list(of(0, 8, 1))},
		{"another style between", two, of(3, 5, 2), list(of(0, 3, 1), of(3, 5, 2), of(5, 8, 1))},
		{"over the ends of both", two, of(2, 6, 2), list(of(0, 2, 1), of(2, 6, 2), of(6, 8, 1))},
		{"none, in the middle", one, of(4, 6, 0), list(of(2, 4, 1), of(6, 8, 1))},
		{"none, over all", two, of(0, 8, 0), nil},
		{"none, upon nothing", nil, of(0, 8, 0), nil},
		{"of no byte", one, of(4, 4, 2), one},
		{"of no byte, none", one, of(4, 4, 0), one},
		{"of no byte, the same style", two, of(4, 4, 1), two},
		{"of no byte, at the end", nil, of(api.MaxText, api.MaxText, 2), nil},
		{"the longest", one, of(0, api.MaxText, 3), list(of(0, api.MaxText, 3))},
		{"upon the longest", list(of(0, api.MaxText, 3)), of(1, 2, api.MaxStyle), list(of(0, 1, 3), of(1, 2, api.MaxStyle), of(2, api.MaxText, 3))},
	} {
		if got, err := Put(c.l, c.s); err != api.OK || !slices.Equal(got, c.want) {
			t.Errorf("P15.1: %s: %v, %v", c.what, got, err)
		}
	}
}

// wrong are lists that are of no form, whatever the text.
func wrong() [][]api.Span {
	return [][]api.Span{
		list(of(0, 2, 0)),
		list(of(0, 2, api.MaxStyle+1)),
		list(of(-1, 2, 1)),
		list(of(2, 2, 1)),
		list(of(3, 2, 1)),
		list(of(0, api.MaxText+1, 1)),
		list(of(0, 2, 1), of(2, 3, 1)),
		list(of(0, 2, 1), of(1, 3, 2)),
		list(of(2, 3, 1), of(0, 1, 2)),
		list(of(math.MaxInt, math.MinInt, 1)),
		striped(api.MaxSpans+1, 1),
	}
}

func TestPutErrors(t *testing.T) {
	for _, s := range []api.Span{
		of(0, 1, -1), of(0, 1, api.MaxStyle+1), of(0, 1, math.MinInt), of(1, 1, api.MaxStyle+1),
		of(-1, 1, 1), of(2, 1, 1), of(0, api.MaxText+1, 1), of(api.MaxText+1, api.MaxText+1, 0),
		of(math.MinInt, math.MaxInt, 1), of(math.MaxInt, math.MinInt, 1), of(math.MinInt, math.MinInt, 0),
	} {
		for _, l := range [][]api.Span{nil, list(of(0, 1, 1)), striped(api.MaxSpans, 1)} {
			if got, err := Put(l, s); len(got) != 0 || err != api.ErrForm {
				t.Errorf("P15.1: %v upon %d: %v, %v", s, len(l), got, err)
			}
		}
	}
	for _, l := range wrong() {
		for _, s := range []api.Span{of(0, 1, 1), of(4, 4, 1), of(0, api.MaxText, 0)} {
			if got, err := Put(l, s); len(got) != 0 || err != api.ErrForm {
				t.Errorf("P15.1: %v upon %v: %v, %v", s, l, got, err)
			}
		}
	}
}

// As many spans as there may be, and one more.
func TestMany(t *testing.T) {
	full := striped(api.MaxSpans, 1)
	end := full[len(full)-1].To
	for _, c := range []struct {
		what string
		s    api.Span
		want int
	}{
		{"apart from all", of(end+1, end+2, 1), 0},
		{"behind the last one", of(end, end+1, 2), 0},
		{"between two", of(1, 2, 2), 0},
		{"joined to the last one", of(end, end+1, 1), api.MaxSpans},
		{"joining two", of(1, 2, 1), api.MaxSpans - 1},
		{"in place of one", of(2, 3, 2), api.MaxSpans},
		{"of no byte", of(1, 1, 2), api.MaxSpans},
		{"none", of(2, 3, 0), api.MaxSpans - 1},
	} {
		got, err := Put(full, c.s)
		if c.want == 0 && (len(got) != 0 || err != api.ErrMany) || c.want > 0 && (len(got) != c.want || err != api.OK) {
			t.Errorf("P15.1: %s: %d, %v", c.what, len(got), err)
		}
	}
	// One that is cut in two is one more.
	long := append(striped(api.MaxSpans-1, 1), of(400, 410, 1))
	for _, s := range []api.Span{of(404, 405, 0), of(404, 405, 2), of(400, 401, 2)} {
		if got, err := Put(long, s); len(got) != 0 || err != api.ErrMany {
			t.Errorf("P15.1: %v: %d, %v", s, len(got), err)
		}
	}
	if got, err := Put(long[1:], of(404, 405, 0)); len(got) != api.MaxSpans || err != api.OK {
		t.Errorf("P15.1: %d, %v", len(got), err)
	}
}

func TestAtRows(t *testing.T) {
	both := list(of(2, 6, 3), of(4, 8, 5), of(-3, -1, 7), of(9, 9, 8), of(11, 10, 9))
	for at, want := range map[int]int{math.MinInt: 0, -3: 7, -2: 7, -1: 0, 1: 0, 2: 3, 5: 3, 6: 5, 7: 5, 8: 0, 9: 0, 10: 0, 11: 0, math.MaxInt: 0} {
		if got := At(both, at); got != want {
			t.Errorf("P15.1: At(%d): %d, want %d", at, got, want)
		}
	}
	if got := At(striped(100, 4), 198); got != 4 {
		t.Errorf("P15.1: more than there may be: %d", got)
	}
	if got := At(nil, 0); got != 0 {
		t.Errorf("P15.1: of none: %d", got)
	}
}

func TestInRows(t *testing.T) {
	const least, most = math.MinInt, math.MaxInt
	two := list(of(0, 3, 1), of(5, 8, 2))
	for _, c := range []struct {
		what string
		l    []api.Span
		i    api.Interval
		want []api.Span
	}{
		{"all", two, api.Interval{From: 0, To: 8}, two},
		{"more than all", two, api.Interval{From: least, To: most}, two},
		{"a part of each", two, api.Interval{From: 1, To: 6}, list(of(1, 3, 1), of(5, 6, 2))},
		{"between", two, api.Interval{From: 3, To: 5}, nil},
		{"in one", two, api.Interval{From: 6, To: 7}, list(of(6, 7, 2))},
		{"empty, in one", two, api.Interval{From: 6, To: 6}, nil},
		{"turned", two, api.Interval{From: 7, To: 1}, nil},
		{"the widest, turned", two, api.Interval{From: most, To: least}, nil},
		{"of none", nil, api.Interval{From: 0, To: 8}, nil},
		{"those that touch stay apart", list(of(0, 3, 1), of(3, 5, 1)), api.Interval{From: 1, To: 4}, list(of(1, 3, 1), of(3, 4, 1))},
		{"of no style", list(of(0, 3, 0)), api.Interval{From: 1, To: 4}, list(of(1, 3, 0))},
		{"in no order", list(of(5, 8, 2), of(0, 6, 1)), api.Interval{From: 1, To: 6}, list(of(5, 6, 2), of(1, 6, 1))},
		{"the widest", list(of(least, most, 1)), api.Interval{From: -1, To: 4}, list(of(-1, 4, 1))},
		{"many", striped(300, 1), api.Interval{From: 0, To: 1000}, striped(300, 1)},
	} {
		if got := In(c.l, c.i); !slices.Equal(got, c.want) {
			t.Errorf("P15.2: %s: %v", c.what, got)
		}
	}
}

func TestEditRows(t *testing.T) {
	// Of "abcdef": x ahead of c, d goes, y is put in behind e.
	d := from(6, keep(0, 2), put("x"), keep(2, 3), keep(4, 5), put("y"), keep(5, 6))
	for _, c := range []struct {
		what string
		l    []api.Span
		d    api.Delta
		want []api.Span
	}{
		{"of none", nil, d, nil},
		{"a text at its beginning", list(of(2, 3, 1)), d, list(of(3, 4, 1))},
		{"a text at its end", list(of(0, 2, 1)), d, list(of(0, 2, 1))},
		{"a text between two", list(of(0, 2, 1), of(2, 3, 2)), d, list(of(0, 2, 1), of(3, 4, 2))},
		{"a text in it", list(of(1, 3, 1)), d, list(of(1, 4, 1))},
		{"all of it goes", list(of(3, 4, 1)), d, nil},
		{"those on both sides touch then", list(of(2, 3, 1), of(3, 4, 2), of(4, 5, 1)), d, list(of(3, 5, 1))},
		{"on both sides of a text they don't", list(of(4, 5, 1), of(5, 6, 2)), d, list(of(4, 5, 1), of(6, 7, 2))},
		{"others touch then", list(of(2, 3, 1), of(4, 5, 2)), d, list(of(3, 4, 1), of(4, 5, 2))},
		{"apart of what went", list(of(0, 3, 1), of(5, 8, 1)), from(10, keep(0, 3), keep(5, 10)), list(of(0, 6, 1))},
		{"a text in place of what went", list(of(0, 3, 1), of(5, 8, 1)), from(10, keep(0, 3), put("x"), keep(5, 10)), list(of(0, 3, 1), of(4, 7, 1))},
		{"its beginning goes for a text", list(of(2, 6, 1)), from(8, keep(0, 1), put("xy"), keep(4, 8)), list(of(3, 5, 1))},
		{"its end goes for a text", list(of(2, 6, 1)), from(8, keep(0, 4), put("xy"), keep(7, 8)), list(of(2, 4, 1))},
		{"all goes", list(of(2, 6, 1)), from(8), nil},
		{"all goes for a text", list(of(0, 8, 1)), from(8, put("12345678")), nil},
		{"all stays", striped(api.MaxSpans, 1), delta.Keep(200), striped(api.MaxSpans, 1)},
		{"many are one", striped(api.MaxSpans-1, 1), firsts(api.MaxSpans - 1), list(of(0, api.MaxSpans-1, 1))},
		{"the longest", list(of(0, api.MaxText, 1)), delta.Keep(api.MaxText), list(of(0, api.MaxText, 1))},
		{"as long as there may be then", list(of(0, 2, 1)), from(2, keep(0, 1), put(strings.Repeat("x", api.MaxText-2)), keep(1, 2)), list(of(0, api.MaxText, 1))},
	} {
		if got, err := Edit(c.l, c.d); err != api.OK || !slices.Equal(got, c.want) {
			t.Errorf("P15.2: %s: %v, %v", c.what, got, err)
		}
	}
}

// firsts keeps of n pairs of bytes the first ones.
func firsts(n int) api.Delta {
	d := api.Delta{Base: 2 * n}
	for i := range n {
		d.Elems = append(d.Elems, keep(2*i, 2*i+1))
	}
	return d
}

func TestEditErrors(t *testing.T) {
	one := list(of(0, 4, 1))
	for _, d := range []api.Delta{
		from(-1), from(api.MaxText + 1), from(3), delta.Keep(3), delta.Keep(0),
		from(4, keep(0, 5)), from(4, keep(2, 2)), from(4, keep(0, 2), keep(2, 4)), from(4, put("x"), put("y")),
		from(4, put("\xff")), from(4, api.Elem{}), from(4, keep(2, 4), keep(0, 2)),
		from(4, put(strings.Repeat("x", api.MaxText+1))), from(math.MaxInt, keep(0, math.MaxInt)),
	} {
		if got, err := Edit(one, d); len(got) != 0 || err != api.ErrForm {
			t.Errorf("P15.2: by a delta over %d: %v, %v", d.Base, got, err)
		}
	}
	for _, d := range []api.Delta{from(-1), from(4, api.Elem{}), from(4, put("\xff"))} {
		if got, err := Edit(nil, d); len(got) != 0 || err != api.ErrForm {
			t.Errorf("P15.2: of none by a delta over %d: %v, %v", d.Base, got, err)
		}
	}
	for _, l := range wrong() {
		if got, err := Edit(l, delta.Keep(api.MaxText)); len(got) != 0 || err != api.ErrForm {
			t.Errorf("P15.2: of %v: %v, %v", l, got, err)
		}
		// Also where all of them would go.
		if got, err := Edit(l, from(api.MaxText)); len(got) != 0 || err != api.ErrForm {
			t.Errorf("P15.2: of %v: %v, %v", l, got, err)
		}
	}
}

func TestMergeErrors(t *testing.T) {
	for _, l := range wrong() {
		if got, err := Merge(nil, l); len(got) != 0 || err != api.ErrForm {
			t.Errorf("P15.2: %v upon none: %v, %v", l, got, err)
		}
		if got, err := Merge(l, list(of(0, 1, 1))); len(got) != 0 || err != api.ErrForm {
			t.Errorf("P15.2: upon %v: %v, %v", l, got, err)
		}
	}
	full := striped(api.MaxSpans, 1)
	if got, err := Merge(full, list(of(300, 301, 1))); len(got) != 0 || err != api.ErrMany {
		t.Errorf("P15.2: %v, %v", got, err)
	}
	// The first error, though what is put upon it then would mend it.
	if got, err := Merge(full, list(of(1, 2, 2), of(2, 200, 3))); len(got) != 0 || err != api.ErrMany {
		t.Errorf("P15.2: %v, %v", got, err)
	}
	if got, err := Merge(full, list(of(0, 100, 2), of(100, 101, 3))); len(got) != 11 || err != api.OK {
		t.Errorf("P15.2: %v, %v", got, err)
	}
	// What isn't Is is told ahead of what goes wrong on the way.
	if got, err := Merge(full, append(list(of(1, 2, 2)), of(3, 3, 1))); len(got) != 0 || err != api.ErrForm {
		t.Errorf("P15.2: %v, %v", got, err)
	}
	if got, err := Merge(full, nil); err != api.OK || !slices.Equal(got, full) {
		t.Errorf("P15.2: %v, %v", got, err)
	}
}

// What is handed in stays as it is, its spare room too; what is answered is new.
func TestMemory(t *testing.T) {
	mark := of(-9, -9, -9)
	room := func(l []api.Span) []api.Span {
		r := append(append([]api.Span{}, l...), mark, mark, mark, mark)
		return r[:len(l)]
	}
	l, b := room(list(of(0, 3, 1), of(5, 8, 1))), room(list(of(1, 2, 2), of(2, 6, 3)))
	d := from(10, keep(0, 3), keep(5, 10))
	answers := func() [][]api.Span {
		put, _ := Put(l, of(4, 4, 1))
		over, _ := Put(l, of(3, 5, 1))
		edit, _ := Edit(l, d)
		stay, _ := Edit(l, delta.Keep(10))
		both, _ := Merge(l, b)
		same, _ := Merge(l, nil)
		return [][]api.Span{put, over, edit, stay, both, same, In(l, api.Interval{From: 0, To: 9}), In(l, api.Interval{From: 2, To: 6})}
	}
	first, again := answers(), answers()
	for i, got := range again {
		for j := range got[:cap(got)] {
			got[:cap(got)][j] = mark
		}
		if !slices.Equal(answers()[i], first[i]) || len(first[i]) == 0 {
			t.Errorf("P15.2: answer %d was touched", i)
		}
	}
	if !slices.Equal(l[:cap(l)][:6], list(of(0, 3, 1), of(5, 8, 1), mark, mark, mark, mark)) {
		t.Errorf("P15.1: what was handed in is %v", l[:6])
	}
	if !slices.Equal(b[:cap(b)][:6], list(of(1, 2, 2), of(2, 6, 3), mark, mark, mark, mark)) {
		t.Errorf("P15.2: what was handed in is %v", b[:6])
	}
	if !slices.Equal(d.Elems, []api.Elem{keep(0, 3), keep(5, 10)}) {
		t.Errorf("P15.2: what was handed in is %v", d)
	}
}
