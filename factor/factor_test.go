package factor

import (
	"math"
	"math/rand"
	"slices"
	"strings"
	"testing"

	"palinode/algebra"
	"palinode/api"
	"palinode/delta"
	"palinode/subset"
)

func put(s string) api.Elem        { return api.Elem{Text: s} }
func keep(from, to int) api.Elem   { return api.Elem{From: from, To: to} }
func letters(n int) string         { return strings.Repeat("abcdefghij", n/10+1)[:n] }
func isZero(d api.Delta) bool      { return d.Base == 0 && len(d.Elems) == 0 }
func long(n int) string            { return strings.Repeat("x", n) }
func counted(n, count int) api.Seg { return api.Seg{Len: n, Count: count} }
func same(a, b api.Delta) bool     { return a.Base == b.Base && slices.Equal(a.Elems, b.Elems) }

// noTexts are none ahead of n places, nor behind them.
func noTexts(n int) []string { return make([]string, n+1) }

// of is a delta, or what is none, of these elements.
func of(base int, elems ...api.Elem) api.Delta { return api.Delta{Base: base, Elems: elems} }

// row is the row of these counts.
func row(t *testing.T, counts []int) *subset.Subset {
	t.Helper()
	s := subset.New(len(counts))
	for i, n := range counts {
		var err api.Errno
		if s, err = s.With(i, i+1, n); err != api.OK {
			t.Fatalf("With(%d, %d, %d): %v", i, i+1, n, err)
		}
	}
	return s
}

// runs is the row of these runs.
func runs(t *testing.T, segs ...api.Seg) *subset.Subset {
	t.Helper()
	s, err := subset.Of(segs)
	if err != api.OK {
		t.Fatalf("Of(%v): %v", segs, err)
	}
	return s
}

// told is a delta told place by place: the text ahead of each place, the one at
// the end too, and how often each place is taken away.
func told(texts []string, counts []int) api.Delta {
	d := api.Delta{Base: len(counts)}
	for at, s := range texts {
		if n := len(d.Elems); s != "" && n > 0 && d.Elems[n-1].Text != "" {
			d.Elems[n-1].Text += s
		} else if s != "" {
			d.Elems = append(d.Elems, put(s))
		}
		if at == len(counts) || counts[at] > 0 {
			continue
		}
		if n := len(d.Elems); n > 0 && d.Elems[n-1].Text == "" && d.Elems[n-1].To == at {
			d.Elems[n-1].To++
		} else {
			d.Elems = append(d.Elems, keep(at, at+1))
		}
	}
	return d
}

// wantDeleted tells byte by byte what no copy of d has.
func wantDeleted(d api.Delta) []int {
	l := make([]int, d.Base)
	for at := range l {
		l[at] = 1
		for _, e := range d.Elems {
			if e.From <= at && at < e.To {
				l[at] = 0
			}
		}
	}
	return l
}

// wantInserted tells byte by byte what of that which d makes was put in.
func wantInserted(d api.Delta) []int {
	var l []int
	for _, e := range d.Elems {
		for range e.To - e.From {
			l = append(l, 0)
		}
		for range len(e.Text) {
			l = append(l, 1)
		}
	}
	return l
}

// wantIns is the delta that keeps all, with each text of d at the To of the last
// copy ahead of it.
func wantIns(d api.Delta) api.Delta {
	texts := noTexts(d.Base)
	for i, e := range d.Elems {
		if e.Text == "" {
			continue
		}
		at := 0
		for _, ahead := range d.Elems[:i] {
			at = max(at, ahead.To)
		}
		texts[at] += e.Text
	}
	return told(texts, make([]int, d.Base))
}

// checkRow fails unless a call answered just these counts.
func checkRow(t *testing.T, what string, s *subset.Subset, err api.Errno, want []int) {
	t.Helper()
	if err != api.OK || s == nil || !s.Same(row(t, want)) {
		t.Fatalf("P12.1: %s: %v, want %v", what, err, want)
	}
}

// checkHalves holds all calls that take a delta against the chapter's words.
func checkHalves(t *testing.T, d api.Delta) {
	t.Helper()
	if !delta.Is(d) {
		t.Fatalf("%v is no delta", d)
	}
	x, err := Deleted(d)
	checkRow(t, "Deleted", x, err, wantDeleted(d))
	x, err = Inserted(d)
	checkRow(t, "Inserted", x, err, wantInserted(d))

	ins, del, err := Split(d)
	want := wantIns(d)
	if d.Base+delta.Adds(d) > api.MaxText || len(want.Elems) > api.MaxElems {
		wantErr := api.ErrMany
		if d.Base+delta.Adds(d) > api.MaxText {
			wantErr = api.ErrLong
		}
		if err != wantErr || !isZero(ins) || del != nil {
			t.Fatalf("P12.1: Split(%v): %v, %v, want %v", d, ins, err, wantErr)
		}
		return
	}
	checkRow(t, "Split", del, err, wantDeleted(d))
	if !same(ins, want) || !delta.Is(ins) {
		t.Fatalf("P12.1: Split(%v): %v, want %v", d, ins, want)
	}
	checkWhole(t, d, ins, del)
}

// checkWhole holds what the halves of d do, one behind the other, against what
// d does.
func checkWhole(t *testing.T, d, ins api.Delta, del *subset.Subset) {
	t.Helper()
	if got, err := Join(ins, del); err != api.OK || !same(got, d) {
		t.Fatalf("P12.3: Join of the halves of %v: %v, %v", d, got, err)
	}
	s := letters(d.Base)
	all, _ := delta.Apply(ins, s)
	made, _ := delta.Apply(d, s)
	added, err := Inserted(ins)
	if err != api.OK {
		t.Fatalf("P12.3: Inserted(%v): %v", ins, err)
	}
	if got, err := algebra.Delete(added, all); got != s || err != api.OK {
		t.Fatalf("P12.3: %v without what is put in: %q, %v, want %q", ins, got, err, s)
	}
	gone, err := algebra.Expand(del, added)
	if err != api.OK {
		t.Fatalf("P12.3: what goes of %v: %v", d, err)
	}
	if got, err := algebra.Delete(gone, all); got != made || err != api.OK {
		t.Fatalf("P12.3: both halves of %v, of %q: %q, %v, want %q", d, s, got, err, made)
	}
	// Where nothing goes any more, it is told which bytes the whole put in.
	left, err := algebra.Shrink(added, gone)
	if want, _ := Inserted(d); err != api.OK || !left.Same(want) {
		t.Fatalf("P12.3: what %v puts in: %v", d, err)
	}
}

// everyRow calls f with every row of n of these.
func everyRow[T any](n int, of []T, f func(l []T)) {
	l := make([]T, n)
	var fill func(i int)
	fill = func(i int) {
		if i == n {
			f(slices.Clone(l))
			return
		}
		for _, x := range of {
			l[i] = x
			fill(i + 1)
		}
	}
	fill(0)
}

// All deltas over up to five bytes with texts of three kinds at most.
func TestHalvesShort(t *testing.T) {
	for base := range 6 {
		everyRow(base, []int{0, 1}, func(counts []int) {
			places := []int{0}
			for at, n := range counts {
				if n == 0 {
					places = append(places, at+1)
				}
			}
			everyRow(len(places), []string{"", "x", "é"}, func(l []string) {
				texts := noTexts(base)
				for i, at := range places {
					texts[at] = l[i]
				}
				checkHalves(t, told(texts, counts))
			})
		})
	}
}

// someDelta is a delta over base bytes of about n elements.
func someDelta(r *rand.Rand, base, n int) api.Delta {
	d := api.Delta{Base: base}
	at, behindText := 0, false
	for len(d.Elems) < n {
		if !behindText && r.Intn(2) == 0 {
			d.Elems = append(d.Elems, put([]string{"x", "yz", "é", "\U0001f600", "\n"}[r.Intn(5)]))
			behindText = true
			continue
		}
		from := at + r.Intn(4)
		if !behindText && at > 0 && from == at {
			from++
		}
		to := from + 1 + r.Intn(6)
		if to > base {
			break
		}
		d.Elems = append(d.Elems, keep(from, to))
		at, behindText = to, false
	}
	return d
}

func TestHalvesLong(t *testing.T) {
	r := rand.New(rand.NewSource(121))
	many := 0
	for i := range 2000 {
		d := someDelta(r, r.Intn(300), 1+r.Intn(api.MaxElems))
		if i%10 == 0 {
			base := r.Intn(100)
			d = inTurn(base, min(base, api.MaxElems), r.Intn(4) == 0)
		}
		checkHalves(t, d)
		if _, _, err := Split(d); err == api.ErrMany {
			many++
		}
	}
	if many < 20 || many > 1000 {
		t.Errorf("%d of 2000 have a half of too many elements", many)
	}
}

func TestSplitRows(t *testing.T) {
	for _, c := range []struct {
		what     string
		d        api.Delta
		ins      api.Delta
		del      []api.Seg
		inserted []api.Seg
	}{
		{"nothing of nothing", of(0), of(0), nil, nil},
		{"all is kept", of(3, keep(0, 3)), of(3, keep(0, 3)), []api.Seg{counted(3, 0)}, []api.Seg{counted(3, 0)}},
		{"nothing is kept", of(3), of(3, keep(0, 3)), []api.Seg{counted(3, 1)}, nil},
		{"a text of nothing", of(0, put("é")), of(0, put("é")), nil, []api.Seg{counted(2, 1)}},
		{"a text for all", of(3, put("x")), of(3, put("x"), keep(0, 3)), []api.Seg{counted(3, 1)}, []api.Seg{counted(1, 1)}},
		{"the example", of(3, keep(0, 1), put("x"), keep(2, 3)), of(3, keep(0, 1), put("x"), keep(1, 3)), []api.Seg{counted(1, 0), counted(1, 1), counted(1, 0)}, []api.Seg{counted(1, 0), counted(1, 1), counted(1, 0)}},
		{"at both ends", of(3, put("x"), keep(0, 3), put("y")), of(3, put("x"), keep(0, 3), put("y")), []api.Seg{counted(3, 0)}, []api.Seg{counted(1, 1), counted(3, 0), counted(1, 1)}},
		{"ahead of the end that goes", of(3, keep(0, 2), put("xy")), of(3, keep(0, 2), put("xy"), keep(2, 3)), []api.Seg{counted(2, 0), counted(1, 1)}, []api.Seg{counted(2, 0), counted(2, 1)}},
		{"ahead of the beginning that goes", of(3, put("x"), keep(2, 3)), of(3, put("x"), keep(0, 3)), []api.Seg{counted(2, 1), counted(1, 0)}, []api.Seg{counted(1, 1), counted(1, 0)}},
		{"behind bytes that go with no text", of(6, keep(1, 2), keep(3, 4), put("x"), keep(4, 5)), of(6, keep(0, 4), put("x"), keep(4, 6)), []api.Seg{counted(1, 1), counted(1, 0), counted(1, 1), counted(2, 0), counted(1, 1)}, []api.Seg{counted(2, 0), counted(1, 1), counted(1, 0)}},
		{"copies that touch", of(2, keep(0, 1), put("x"), keep(1, 2)), of(2, keep(0, 1), put("x"), keep(1, 2)), []api.Seg{counted(2, 0)}, []api.Seg{counted(1, 0), counted(1, 1), counted(1, 0)}},
	} {
		ins, del, err := Split(c.d)
		if err != api.OK || !same(ins, c.ins) || !slices.Equal(del.Segs(), c.del) {
			t.Errorf("P12.1: %s: %v, %v, want %v, %v", c.what, ins, err, c.ins, c.del)
		}
		if s, err := Deleted(c.d); err != api.OK || !slices.Equal(s.Segs(), c.del) {
			t.Errorf("P12.1: %s: Deleted: %v, want %v", c.what, err, c.del)
		}
		if s, err := Inserted(c.d); err != api.OK || !slices.Equal(s.Segs(), c.inserted) {
			t.Errorf("P12.1: %s: Inserted: %v, want %v", c.what, err, c.inserted)
		}
		if d, err := Join(c.ins, runs(t, c.del...)); err != api.OK || !same(d, c.d) {
			t.Errorf("P12.3: %s: %v, %v, want %v", c.what, d, err, c.d)
		}
	}
}

// wrong are what is no delta.
func wrong() []api.Delta {
	many := of(200)
	for i := range api.MaxElems + 1 {
		many.Elems = append(many.Elems, keep(2*i, 2*i+1))
	}
	return []api.Delta{
		of(-1),
		of(math.MinInt),
		of(api.MaxText + 1),
		of(api.MaxText+1, keep(0, api.MaxText+1)),
		of(math.MaxInt, keep(0, math.MaxInt)),
		of(3, api.Elem{}),
		of(3, keep(0, 4)),
		of(3, keep(-1, 3)),
		of(3, keep(2, 1)),
		of(3, keep(1, 1)),
		of(3, keep(math.MinInt, math.MaxInt)),
		of(3, keep(math.MaxInt, math.MinInt)),
		of(3, keep(0, 2), keep(1, 3)),
		of(3, keep(0, 1), keep(1, 3)),
		of(3, keep(2, 3), put("x"), keep(0, 1)),
		of(3, put("x"), put("y"), keep(0, 3)),
		of(3, put("\xff"), keep(0, 3)),
		of(3, put("é"[:1]), keep(0, 3)),
		of(3, api.Elem{From: 0, To: 3, Text: "x"}),
		of(3, api.Elem{From: 1, To: 1, Text: "x"}, keep(0, 3)),
		of(3, keep(0, 3), put(long(api.MaxText-2))),
		many,
	}
}

func TestForm(t *testing.T) {
	for i, d := range wrong() {
		if ins, del, err := Split(d); err != api.ErrForm || !isZero(ins) || del != nil {
			t.Errorf("P12.1: Split of wrong %d: %v, %v", i, ins, err)
		}
		if s, err := Deleted(d); err != api.ErrForm || s != nil {
			t.Errorf("P12.1: Deleted of wrong %d: %v", i, err)
		}
		if s, err := Inserted(d); err != api.ErrForm || s != nil {
			t.Errorf("P12.1: Inserted of wrong %d: %v", i, err)
		}
		for _, del := range []*subset.Subset{nil, subset.New(3), subset.New(d.Base)} {
			if j, err := Join(d, del); err != api.ErrForm || !isZero(j) {
				t.Errorf("P12.2: Join of wrong %d: %v, %v", i, j, err)
			}
		}
	}
}

// inTurn is a delta over base bytes of n elements, inserts and copies of one
// byte each in turn, with a byte that isn't kept behind each copy.
func inTurn(base, n int, textFirst bool) api.Delta {
	d := api.Delta{Base: base}
	at := 0
	for i := range n {
		if (i%2 == 0) == textFirst {
			d.Elems = append(d.Elems, put("x"))
		} else {
			d.Elems = append(d.Elems, keep(at, at+1))
			at += 2
		}
	}
	return d
}

// At each limit of Split, and at one past it.
func TestSplitLimits(t *testing.T) {
	const most = api.MaxText
	for _, c := range []struct {
		what string
		d    api.Delta
		want api.Errno
	}{
		{"as many elements as can be, one text first", inTurn(100, api.MaxElems, true), api.OK},
		{"one element more behind the last text", inTurn(100, api.MaxElems, false), api.ErrMany},
		{"nothing behind the last text", inTurn(59, api.MaxElems, false), api.OK},
		{"a byte behind the last text", inTurn(60, api.MaxElems, false), api.ErrMany},
		{"one less, and one behind it", inTurn(100, api.MaxElems-1, true), api.OK},
		{"as long as can be", of(most, keep(0, most)), api.OK},
		{"as long as can be, none kept", of(most), api.OK},
		{"as long as can be, of nothing", of(0, put(long(most))), api.OK},
		{"as long as can be, of both", of(10, put(long(most-10))), api.OK},
		{"one too long", of(10, put(long(most-9))), api.ErrLong},
		{"one too long, of one byte", of(1, put(long(most))), api.ErrLong},
		{"one too long by a text of one", of(most, keep(0, 5), put("x"), keep(6, most)), api.ErrLong},
		{"twice as long", of(most, put(long(most))), api.ErrLong},
		{"too long by two texts", of(20, keep(1, 2), put(long(most-20)), keep(3, 4), put("x")), api.ErrLong},
		{"too long, and too many", withText(inTurn(100, api.MaxElems, false), long(most-100)), api.ErrLong},
	} {
		ins, del, err := Split(c.d)
		if err != c.want || err != api.OK && (!isZero(ins) || del != nil) {
			t.Errorf("P12.1: %s: %d elements, %v, want %v", c.what, len(ins.Elems), err, c.want)
		}
		if err == api.OK && (!delta.Is(ins) || ins.Base != c.d.Base || delta.Drops(ins) != 0 || delta.Adds(ins) != delta.Adds(c.d)) {
			t.Errorf("P12.1: %s: %d elements of %d bytes", c.what, len(ins.Elems), ins.Base)
		}
		// Of the bytes alone nothing is too long or too many.
		x, err := Deleted(c.d)
		if err != api.OK || x.Len() != c.d.Base || x.Size() != delta.Drops(c.d) {
			t.Errorf("P12.1: %s: Deleted: %v", c.what, err)
		}
		y, err := Inserted(c.d)
		if err != api.OK || y.Len() != delta.Size(c.d) || y.Size() != delta.Adds(c.d) {
			t.Errorf("P12.1: %s: Inserted: %v", c.what, err)
		}
	}
}

// withText is d with s for its last text.
func withText(d api.Delta, s string) api.Delta {
	d.Elems = slices.Clone(d.Elems)
	d.Elems[len(d.Elems)-1].Text = s
	return d
}

// checkJoin holds Join against what is told place by place.
func checkJoin(t *testing.T, texts []string, counts []int) {
	t.Helper()
	ins := told(texts, make([]int, len(counts)))
	del := row(t, counts)
	got, err := Join(ins, del)
	want := told(texts, counts)
	if len(want.Elems) > api.MaxElems {
		if err != api.ErrMany || !isZero(got) {
			t.Fatalf("P12.2: Join(%v, %v): %v, %v", ins, counts, got, err)
		}
		return
	}
	if err != api.OK || !same(got, want) || !delta.Is(got) {
		t.Fatalf("P12.2: Join(%v, %v): %v, %v, want %v", ins, counts, got, err, want)
	}
	// Each byte counts as one, however often it goes.
	if x, err := Deleted(got); err != api.OK || !algebra.Not(x).Same(algebra.Not(del)) {
		t.Fatalf("P12.2: Join(%v, %v): %v goes, %v", ins, counts, x, err)
	}
}

// All halves over up to four bytes, with a text of two kinds or none at each
// place.
func TestJoinShort(t *testing.T) {
	for base := range 5 {
		everyRow(base, []int{0, 1, 100}, func(counts []int) {
			everyRow(base+1, []string{"", "x", "é"}, func(texts []string) {
				checkJoin(t, texts, counts)
			})
		})
	}
}

func TestJoinLong(t *testing.T) {
	r := rand.New(rand.NewSource(122))
	many := 0
	for range 2000 {
		base := r.Intn(400)
		texts, counts := noTexts(base), make([]int, base)
		for range r.Intn(30) {
			texts[r.Intn(base+1)] = []string{"x", "yz", "é", "\U0001f600"}[r.Intn(4)]
		}
		for range r.Intn(100) {
			from := r.Intn(base + 1)
			n := r.Intn(4)
			for at := from; at < min(base, from+1+r.Intn(5)); at++ {
				counts[at] = n
			}
		}
		checkJoin(t, texts, counts)
		if len(told(texts, counts).Elems) > api.MaxElems {
			many++
		}
	}
	if many < 20 || many > 1000 {
		t.Errorf("%d of 2000 make too many elements", many)
	}
}

func TestJoinRows(t *testing.T) {
	ins := of(6, put("a"), keep(0, 3), put("b"), keep(3, 6), put("c"))
	for _, c := range []struct {
		what string
		del  []api.Seg
		want []api.Elem
	}{
		{"none goes", []api.Seg{counted(6, 0)}, ins.Elems},
		{"all goes", []api.Seg{counted(6, 1)}, []api.Elem{put("abc")}},
		{"all goes, not as often", []api.Seg{counted(2, 1), counted(2, 2), counted(2, 100)}, []api.Elem{put("abc")}},
		{"all between two goes", []api.Seg{counted(3, 2), counted(3, 0)}, []api.Elem{put("ab"), keep(3, 6), put("c")}},
		{"all between two goes, and more", []api.Seg{counted(2, 0), counted(4, 7)}, []api.Elem{put("a"), keep(0, 2), put("bc")}},
		{"on both sides of a text", []api.Seg{counted(2, 0), counted(2, 1), counted(2, 0)}, []api.Elem{put("a"), keep(0, 2), put("b"), keep(4, 6), put("c")}},
		{"ahead of a text", []api.Seg{counted(2, 0), counted(1, 1), counted(3, 0)}, []api.Elem{put("a"), keep(0, 2), put("b"), keep(3, 6), put("c")}},
		{"behind a text", []api.Seg{counted(3, 0), counted(1, 1), counted(2, 0)}, []api.Elem{put("a"), keep(0, 3), put("b"), keep(4, 6), put("c")}},
		{"away from texts", []api.Seg{counted(1, 0), counted(1, 1), counted(2, 0), counted(1, 1), counted(1, 0)}, []api.Elem{put("a"), keep(0, 1), keep(2, 3), put("b"), keep(3, 4), keep(5, 6), put("c")}},
		{"at both ends", []api.Seg{counted(1, 1), counted(4, 0), counted(1, 1)}, []api.Elem{put("a"), keep(1, 3), put("b"), keep(3, 5), put("c")}},
	} {
		got, err := Join(ins, runs(t, c.del...))
		if err != api.OK || !same(got, of(6, c.want...)) {
			t.Errorf("P12.2: %s: %v, %v, want %v", c.what, got, err, c.want)
		}
	}
}

// A nil row is one of no places.
func TestJoinNil(t *testing.T) {
	for _, ins := range []api.Delta{of(0), of(0, put("é"))} {
		for _, del := range []*subset.Subset{nil, subset.New(0)} {
			if got, err := Join(ins, del); err != api.OK || !same(got, ins) {
				t.Errorf("P12.2: Join(%v) of no places: %v, %v", ins, got, err)
			}
		}
	}
	if got, err := Join(delta.Keep(1), nil); err != api.ErrLen || !isZero(got) {
		t.Errorf("P12.2: Join of one byte and nil: %v, %v", got, err)
	}
}

func TestJoinErrors(t *testing.T) {
	each := make([]api.Seg, 0, api.MaxSegs)
	for i := range api.MaxSegs {
		each = append(each, counted(1, i%2))
	}
	for _, c := range []struct {
		what string
		ins  api.Delta
		del  *subset.Subset
		want api.Errno
	}{
		{"one byte not kept", of(3, keep(0, 2)), subset.New(3), api.ErrForm},
		{"none kept", of(3), subset.New(3), api.ErrForm},
		{"one byte not kept, with a text", of(3, keep(0, 1), put("x"), keep(2, 3)), subset.New(3), api.ErrForm},
		{"one place less", delta.Keep(3), subset.New(2), api.ErrLen},
		{"one place more", delta.Keep(3), subset.New(4), api.ErrLen},
		{"as many as it makes", of(3, put("x"), keep(0, 3)), subset.New(4), api.ErrLen},
		{"a place of none", delta.Keep(0), subset.New(1), api.ErrLen},
		{"far more places", delta.Keep(3), subset.New(api.MaxText), api.ErrLen},
		{"each other byte of many", delta.Keep(api.MaxSegs), runs(t, each...), api.ErrMany},
		// Each one ahead of those that are named behind it.
		{"form, then length", of(3, keep(0, 2)), subset.New(2), api.ErrForm},
		{"form, then no places", of(3, keep(0, 2)), nil, api.ErrForm},
		{"form, then many", of(api.MaxSegs, keep(1, api.MaxSegs)), runs(t, each...), api.ErrForm},
		{"length, then many", delta.Keep(api.MaxSegs + 1), runs(t, each...), api.ErrLen},
	} {
		if got, err := Join(c.ins, c.del); err != c.want || !isZero(got) {
			t.Errorf("P12.2: %s: %v, %v, want %v", c.what, got, err, c.want)
		}
	}
}

// At each limit of Join, and at one past it.
func TestJoinLimits(t *testing.T) {
	for n := range 3 {
		// Each other byte is kept, in so many copies.
		copies := api.MaxElems - 1 + n
		counts := make([]int, 2*copies)
		for i := range copies {
			counts[2*i] = 1
		}
		got, err := Join(delta.Keep(len(counts)), row(t, counts))
		if copies <= api.MaxElems {
			if err != api.OK || len(got.Elems) != copies || !delta.Is(got) {
				t.Errorf("P12.2: %d elements: %d, %v", copies, len(got.Elems), err)
			}
		} else if err != api.ErrMany || !isZero(got) {
			t.Errorf("P12.2: %d elements: %d, %v", copies, len(got.Elems), err)
		}
	}
	// Of as many elements and runs as there can be few may be left.
	ins := of(api.MaxSegs)
	for i := range api.MaxElems / 2 {
		ins.Elems = append(ins.Elems, keep(i, i+1), put("x"))
	}
	ins.Elems[api.MaxElems-2].To = api.MaxSegs
	all := make([]int, api.MaxSegs)
	for i := range all {
		all[i] = 1 + i%2
	}
	got, err := Join(ins, row(t, all))
	if want := of(api.MaxSegs, put(long(api.MaxElems/2))); err != api.OK || !same(got, want) {
		t.Errorf("P12.2: all goes: %v, %v", got, err)
	}
	const most = api.MaxText
	full := of(most-5, put(long(5)), keep(0, most-5))
	del := runs(t, counted(1, 0), counted(most-6, 3))
	if got, err := Join(full, del); err != api.OK || !same(got, of(most-5, put(long(5)), keep(0, 1))) {
		t.Errorf("P12.2: as long as can be: %d elements, %v", len(got.Elems), err)
	}
	if got, err := Join(delta.Keep(most), runs(t, counted(most, 1))); err != api.OK || !same(got, of(most)) {
		t.Errorf("P12.2: as many places as can be: %d elements, %v", len(got.Elems), err)
	}
}

// What is handed in, the room behind it too, is neither changed nor kept; what
// is answered, its spare room too, is nobody else's.
func TestMemory(t *testing.T) {
	room := []api.Elem{keep(0, 2), put("x"), keep(2, 5), put("y"), keep(5, 6), put("!"), keep(-1, -1)}
	given := slices.Clone(room)
	ins := of(6, room[:5]...)
	del := runs(t, counted(1, 0), counted(2, 1), counted(3, 0))
	want := of(6, keep(0, 1), put("x"), keep(3, 5), put("y"), keep(5, 6))
	a, _ := Join(ins, del)
	b, _ := Join(ins, del)
	c, x, _ := Split(a)
	d, y, _ := Split(a)
	Inserted(ins)
	Deleted(ins)
	if !slices.Equal(room, given) {
		t.Fatalf("P12.2: %v has become %v", given, room)
	}
	spoil(a.Elems)
	spoil(c.Elems)
	for i := range room {
		room[i] = put("?")
	}
	if !same(b, want) {
		t.Errorf("P12.2: an answer shares memory: %v", b)
	}
	if !same(d, of(6, keep(0, 1), put("x"), keep(1, 5), put("y"), keep(5, 6))) {
		t.Errorf("P12.1: an answer shares memory: %v", d)
	}
	if !x.Same(del) || !y.Same(del) || !slices.Equal(del.Segs(), []api.Seg{counted(1, 0), counted(2, 1), counted(3, 0)}) {
		t.Errorf("P12.1: rows share memory: %v, %v, %v", x.Segs(), y.Segs(), del.Segs())
	}
	if again, err := Join(of(6, given[:5]...), del); err != api.OK || !same(again, want) {
		t.Errorf("P12.2: an answer isn't made anew: %v, %v", again, err)
	}
}

// spoil writes to all of a list's memory.
func spoil(elems []api.Elem) {
	elems = elems[:cap(elems)]
	for i := range elems {
		elems[i] = api.Elem{From: -9, To: -9, Text: "?"}
	}
}

// Halves of any kind make one that is told by its own halves.
func TestWhole(t *testing.T) {
	r := rand.New(rand.NewSource(123))
	for range 1000 {
		base := r.Intn(40)
		texts, counts := noTexts(base), make([]int, base)
		for range r.Intn(6) {
			texts[r.Intn(base+1)] = "x"
		}
		for at := range counts {
			counts[at] = r.Intn(2) * r.Intn(4)
		}
		d, err := Join(told(texts, make([]int, base)), row(t, counts))
		if err != api.OK {
			t.Fatalf("P12.3: %v", err)
		}
		checkHalves(t, d)
		ins, _, err := Split(d)
		if err != api.OK {
			t.Fatalf("P12.3: Split(%v): %v", d, err)
		}
		if again, none, err := Split(ins); err != api.OK || !same(again, ins) || !none.Empty() {
			t.Fatalf("P12.3: Split(%v): %v, %v", ins, again, err)
		}
	}
}

// The chapter's example.
func TestExample(t *testing.T) {
	ins, del, err := Split(of(3, keep(0, 1), put("x"), keep(2, 3)))
	if err != api.OK || !same(ins, of(3, keep(0, 1), put("x"), keep(1, 3))) || !del.Same(row(t, []int{0, 1, 0})) {
		t.Errorf("P12.1: the example: %v, %v", ins, err)
	}
}
