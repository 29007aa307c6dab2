package compose

import (
	"math"
	"math/rand"
	"slices"
	"strings"
	"testing"
	"unicode/utf8"

	"palinode/api"
	"palinode/delta"
)

func put(s string) api.Elem                         { return api.Elem{Text: s} }
func keep(from, to int) api.Elem                    { return api.Elem{From: from, To: to} }
func of(base int, elems ...api.Elem) api.Delta      { return api.Delta{Base: base, Elems: elems} }
func isZero(d api.Delta) bool                       { return d.Base == 0 && len(d.Elems) == 0 }
func same(a, b api.Delta) bool                      { return a.Base == b.Base && slices.Equal(a.Elems, b.Elems) }
func letters(n int) string                          { return strings.Repeat("abcdefghij", n/10+1)[:n] }
func long(n int) string                             { return strings.Repeat("x", n) }
func change(from, to int, s string) api.Change      { return api.Change{From: from, To: to, Text: s} }
func build(base int, l ...api.Change) api.Delta     { d, _ := delta.Build(base, l); return d }
func apply(d api.Delta, s string) string            { made, _ := delta.Apply(d, s); return made }
func row(base int) []cell                           { return cells(delta.Keep(base), nil) }
func answers(d api.Delta, err, want api.Errno) bool { return err == want && isZero(d) }

// cell is a byte that is told by where it comes from: the place in the first
// text of all, or none (-1) and what was put in.
type cell struct {
	place int
	text  byte
}

// cells are what d makes of row, cell by cell; of nil, what it makes of a text
// whose bytes have their own places.
func cells(d api.Delta, row []cell) []cell {
	var l []cell
	for _, e := range d.Elems {
		for at := e.From; at < e.To; at++ {
			c := cell{place: at}
			if row != nil {
				c = row[at]
			}
			l = append(l, c)
		}
		for _, b := range []byte(e.Text) {
			l = append(l, cell{-1, b})
		}
	}
	return l
}

// least is the delta of the least elements that makes row of base bytes, and the
// error of P13.1 and P13.2, if there is one.
func least(base int, row []cell) (api.Delta, api.Errno) {
	d := api.Delta{Base: base}
	for i, c := range row {
		last := len(d.Elems) - 1
		switch {
		case c.place < 0 && i > 0 && row[i-1].place < 0:
			d.Elems[last].Text += string([]byte{c.text})
		case c.place < 0:
			d.Elems = append(d.Elems, put(string([]byte{c.text})))
		case i > 0 && row[i-1].place >= 0 && row[i-1].place == c.place-1:
			d.Elems[last].To++
		default:
			d.Elems = append(d.Elems, keep(c.place, c.place+1))
		}
	}
	for _, e := range d.Elems {
		if !utf8.ValidString(e.Text) {
			return api.Delta{}, api.ErrForm
		}
	}
	if len(d.Elems) > api.MaxElems {
		return api.Delta{}, api.ErrMany
	}
	return d, api.OK
}

// wantTwo tells by the bytes, one by one, what Two answers of deltas that fit.
func wantTwo(a, b api.Delta) (api.Delta, api.Errno) {
	return least(a.Base, cells(b, cells(a, row(a.Base))))
}

// checkTwo holds Two against the chapter's words, and tells its error.
func checkTwo(t *testing.T, a, b api.Delta) api.Errno {
	t.Helper()
	if !delta.Is(a) || !delta.Is(b) || b.Base != delta.Size(a) {
		t.Fatalf("%v, %v don't fit", a, b)
	}
	got, err := Two(a, b)
	want, wantErr := wantTwo(a, b)
	if err != wantErr || !same(got, want) {
		t.Fatalf("P13.1: Two(%v, %v): %v, %v, want %v, %v", a, b, got, err, want, wantErr)
	}
	if err != api.OK {
		return err
	}
	if !delta.Is(got) {
		t.Fatalf("P13.1: Two(%v, %v): %v is no delta", a, b, got)
	}
	s := letters(a.Base)
	if once, twice := apply(got, s), apply(b, apply(a, s)); once != twice {
		t.Fatalf("P13.3: Two(%v, %v) of %q: %q, want %q", a, b, s, once, twice)
	}
	return err
}

// wantInvert tells by the bytes, one by one, what Invert answers of what fits.
func wantInvert(d api.Delta, s string) (api.Delta, api.Errno) {
	made := cells(d, row(d.Base))
	var back []cell
	for at := range len(s) {
		now := slices.Index(made, cell{place: at})
		if now < 0 {
			back = append(back, cell{-1, s[at]})
		} else {
			back = append(back, cell{place: now})
		}
	}
	return least(len(made), back)
}

// checkInvert holds Invert against the chapter's words, and tells its error.
func checkInvert(t *testing.T, d api.Delta, s string) api.Errno {
	t.Helper()
	if !delta.Is(d) || len(s) != d.Base || !utf8.ValidString(s) {
		t.Fatalf("%v, %q don't fit", d, s)
	}
	got, err := Invert(d, s)
	want, wantErr := wantInvert(d, s)
	if err != wantErr || !same(got, want) {
		t.Fatalf("P13.2: Invert(%v, %q): %v, %v, want %v, %v", d, s, got, err, want, wantErr)
	}
	if err != api.OK {
		return err
	}
	if !delta.Is(got) {
		t.Fatalf("P13.2: Invert(%v, %q): %v is no delta", d, s, got)
	}
	if back := apply(got, apply(d, s)); back != s {
		t.Fatalf("P13.2: Invert(%v, %q) makes %q", d, s, back)
	}
	// There and back keeps just what the way there kept.
	both, err := Two(d, got)
	if err != api.OK {
		return api.OK
	}
	for at, c := range cells(both, row(d.Base)) {
		if kept := slices.Contains(cells(d, nil), cell{place: at}); kept != (c.place == at) {
			t.Fatalf("P13.2: there and back by %v, of %q: %v, at %d", d, s, both, at)
		}
	}
	return api.OK
}

// every calls f with every delta over base bytes whose texts are of these; one
// of them is "", of none.
func every(base int, texts []string, f func(d api.Delta)) {
	var fill func(at int, elems []api.Elem)
	fill = func(at int, elems []api.Elem) {
		for _, s := range texts {
			next := slices.Clone(elems)
			if s != "" {
				next = append(next, put(s))
			}
			// What goes ends at to; a copy begins there, unless it would be part
			// of the one ahead of it.
			for to := at; to <= base; to++ {
				if to == base {
					f(of(base, slices.Clone(next)...))
					continue
				}
				if s == "" && at == to && at > 0 {
					continue
				}
				for end := to + 1; end <= base; end++ {
					fill(end, append(slices.Clone(next), keep(to, end)))
				}
			}
		}
	}
	fill(0, nil)
}

// All deltas over up to three bytes, with all over what they make.
func TestTwoShort(t *testing.T) {
	n, halves := 0, 0
	for base := range 4 {
		every(base, []string{"", "x", "é"}, func(a api.Delta) {
			size := delta.Size(a)
			if size > 6 {
				return
			}
			every(size, []string{"", "y"}, func(b api.Delta) {
				n++
				if checkTwo(t, a, b) == api.ErrForm {
					halves++
				}
			})
		})
	}
	if n < 10000 || halves < 1000 {
		t.Errorf("only %d pairs, of which %d with half a code point", n, halves)
	}
}

// someDelta is a delta over base bytes of at most n elements.
func someDelta(r *rand.Rand, base, n int) api.Delta {
	d := api.Delta{Base: base}
	at, behindText := 0, false
	for len(d.Elems) < n {
		if !behindText && r.Intn(2) == 0 {
			d.Elems = append(d.Elems, put([]string{"x", "yz", "pqrstuvw", "é", "\U0001f600", "\n"}[r.Intn(6)]))
			behindText = true
			continue
		}
		from := at + r.Intn(4)
		if !behindText && at > 0 && from == at {
			from++
		}
		to := from + 1 + r.Intn(9)
		if to > base {
			break
		}
		d.Elems = append(d.Elems, keep(from, to))
		at, behindText = to, false
	}
	return d
}

func TestTwoLong(t *testing.T) {
	r := rand.New(rand.NewSource(131))
	told := map[api.Errno]int{}
	for range 3000 {
		a := someDelta(r, 100+r.Intn(400), 1+r.Intn(api.MaxElems))
		if r.Intn(3) > 0 {
			// Of bytes alone, so that no code point is cut.
			for i, e := range a.Elems {
				if e.Text != "" {
					a.Elems[i].Text = letters(1 + r.Intn(9))
				}
			}
		}
		b := someDelta(r, delta.Size(a), 1+r.Intn(api.MaxElems))
		told[checkTwo(t, a, b)]++
	}
	for _, err := range []api.Errno{api.OK, api.ErrForm, api.ErrMany} {
		if told[err] < 50 {
			t.Errorf("%v only %d times", err, told[err])
		}
	}
}

func TestTwoRows(t *testing.T) {
	wide := build(2, change(1, 1, "é"))
	for _, c := range []struct {
		what string
		a, b api.Delta
		want api.Delta
	}{
		{"the example", build(4, change(2, 2, "x")), build(5, change(2, 3, "")), delta.Keep(4)},
		{"nothing and nothing", of(0), of(0), of(0)},
		{"all goes, twice", of(3), of(0), of(3)},
		{"all goes, then a text", of(3), of(0, put("x")), of(3, put("x"))},
		{"a text, then all goes", of(3, put("xy")), of(2), of(3)},
		{"a text for a text", of(3, put("xy")), of(2, put("é")), of(3, put("é"))},
		{"all is kept, twice", delta.Keep(3), delta.Keep(3), delta.Keep(3)},
		{"all is kept first", delta.Keep(3), of(3, put("x"), keep(1, 2)), of(3, put("x"), keep(1, 2))},
		{"all is kept then", of(3, put("x"), keep(1, 2)), delta.Keep(2), of(3, put("x"), keep(1, 2))},
		{"texts side by side", of(3, keep(0, 1), put("x"), keep(1, 3)), of(4, keep(0, 2), put("y"), keep(2, 4)), of(3, keep(0, 1), put("xy"), keep(1, 3))},
		{"a text ahead of a text", of(3, keep(0, 1), put("x"), keep(1, 3)), of(4, keep(0, 1), put("y"), keep(1, 4)), of(3, keep(0, 1), put("yx"), keep(1, 3))},
		{"a text within a text", of(3, put("xz"), keep(0, 3)), of(5, keep(0, 1), put("y"), keep(1, 5)), of(3, put("xyz"), keep(0, 3))},
		{"a text for part of a text", of(3, put("xyz"), keep(0, 3)), of(6, keep(0, 1), put("Y"), keep(2, 6)), of(3, put("xYz"), keep(0, 3))},
		{"the outer ends of a text", of(3, put("xyz"), keep(0, 3)), of(6, keep(0, 1), keep(2, 6)), of(3, put("xz"), keep(0, 3))},
		{"texts whose copy goes", of(5, put("x"), keep(1, 4), put("y")), of(5, keep(0, 1), keep(4, 5)), of(5, put("xy"))},
		{"texts whose copy goes for a text", of(5, put("x"), keep(1, 4), put("z")), of(5, keep(0, 1), put("y"), keep(4, 5)), of(5, put("xyz"))},
		{"part of a copy", of(5, keep(0, 5)), of(5, keep(1, 2), keep(3, 4)), of(5, keep(1, 2), keep(3, 4))},
		{"parts of several", of(9, keep(0, 3), put("xyz"), keep(4, 8)), of(10, keep(1, 5), put("é"), keep(5, 8)), of(9, keep(1, 3), put("xyéz"), keep(4, 6))},
		{"copies that touch where a text went", of(4, keep(0, 2), put("x"), keep(2, 4)), of(5, keep(0, 2), keep(3, 5)), delta.Keep(4)},
		{"copies that don't touch", of(4, keep(0, 2), put("x"), keep(3, 4)), of(4, keep(0, 2), keep(3, 4)), of(4, keep(0, 2), keep(3, 4))},
		{"a hole that grows", of(6, keep(0, 2), keep(4, 6)), of(4, keep(0, 1), keep(3, 4)), of(6, keep(0, 1), keep(5, 6))},
		{"half of a copied code point", delta.Keep(2), of(2, keep(0, 1)), of(2, keep(0, 1))},
		{"a code point that was put in goes", wide, of(4, keep(0, 1), keep(3, 4)), delta.Keep(2)},
		{"halves of code points that come together", of(3, put("é"), keep(0, 3), put("é")), of(7, keep(0, 1), keep(6, 7)), of(3, put("é"))},
		{"halves within one text", of(1, put("éé"), keep(0, 1)), of(5, keep(0, 1), keep(3, 5)), of(1, put("é"), keep(0, 1))},
	} {
		got, err := Two(c.a, c.b)
		if err != api.OK || !same(got, c.want) {
			t.Errorf("P13.1: %s: %v, %v, want %v", c.what, got, err, c.want)
		}
		checkTwo(t, c.a, c.b)
	}
}

// wrong are what is no delta.
func wrong() []api.Delta {
	many := of(200)
	for i := range api.MaxElems + 1 {
		many.Elems = append(many.Elems, keep(2*i, 2*i+1))
	}
	return []api.Delta{
		of(-1),
		of(math.MinInt),
		of(api.MaxText + 1),
		of(api.MaxText+1, keep(0, api.MaxText+1)),
		of(math.MaxInt, keep(0, math.MaxInt)),
		of(4, api.Elem{}),
		of(4, keep(0, 5)),
		of(4, keep(-1, 3)),
		of(4, keep(2, 1)),
		of(4, keep(1, 1)),
		of(4, keep(math.MinInt, math.MaxInt)),
		of(4, keep(math.MaxInt, math.MinInt)),
		of(4, keep(0, 2), keep(1, 3)),
		of(4, keep(0, 1), keep(1, 3)),
		of(4, keep(2, 3), put("x"), keep(0, 1)),
		of(4, put("x"), put("y"), keep(0, 3)),
		of(4, put("\xff"), keep(0, 3)),
		of(4, put("é"[:1]), keep(0, 3)),
		of(4, api.Elem{From: 0, To: 3, Text: "x"}),
		of(4, api.Elem{From: 1, To: 1, Text: "x"}, keep(0, 3)),
		of(4, keep(0, 4), put(long(api.MaxText-3))),
		many,
	}
}

func TestForm(t *testing.T) {
	fine := build(4, change(1, 3, "xy"))
	for i, d := range wrong() {
		for _, other := range []api.Delta{fine, of(0), delta.Keep(d.Base), d} {
			if got, err := Two(d, other); !answers(got, err, api.ErrForm) {
				t.Errorf("P13.1: Two of wrong %d and %v: %v, %v", i, other, got, err)
			}
			if got, err := Two(other, d); !answers(got, err, api.ErrForm) {
				t.Errorf("P13.1: Two of %v and wrong %d: %v, %v", other, i, got, err)
			}
		}
		for _, l := range [][]api.Delta{{d}, {d, fine}, {fine, d}, {fine, fine, d, fine}} {
			if got, err := All(l); !answers(got, err, api.ErrForm) {
				t.Errorf("P13.1: All with wrong %d: %v, %v", i, got, err)
			}
		}
		for _, s := range []string{"", "abcd", "\xff", letters(200), letters(api.MaxText + 1)} {
			if got, err := Invert(d, s); !answers(got, err, api.ErrForm) {
				t.Errorf("P13.2: Invert of wrong %d: %v, %v", i, got, err)
			}
		}
	}
}

// each is a delta over 2 * n bytes that keeps each other one, behind a text of
// size bytes each, if that isn't 0.
func each(n, size int) api.Delta {
	d := api.Delta{Base: 2 * n}
	for i := range n {
		if size > 0 {
			d.Elems = append(d.Elems, put(long(size)))
		}
		d.Elems = append(d.Elems, keep(2*i, 2*i+1))
	}
	return d
}

func TestTwoErrors(t *testing.T) {
	const most = api.MaxElems
	in := build(4, change(2, 2, "x"))
	wide := build(2, change(1, 1, "é"))
	// Of these each other byte is kept, then a text stands ahead of one of them,
	// or half a code point.
	apart := each(most, 0)
	halves := of(2*most-2, append([]api.Elem{put("é")}, each(most-1, 0).Elems...)...)
	for _, c := range []struct {
		what string
		a, b api.Delta
		want api.Errno
	}{
		{"a byte too few", in, delta.Keep(4), api.ErrLen},
		{"a byte too many", in, delta.Keep(6), api.ErrLen},
		{"its own base", in, in, api.ErrLen},
		{"something of nothing", of(3), of(1), api.ErrLen},
		{"nothing of something", delta.Keep(3), of(0), api.ErrLen},
		{"the first half", wide, of(4, keep(0, 2), keep(3, 4)), api.ErrForm},
		{"the second half", wide, of(4, keep(0, 1), keep(2, 4)), api.ErrForm},
		{"a text between halves", wide, of(4, keep(0, 2), put("x"), keep(2, 4)), api.ErrForm},
		{"the halves the other way round", of(0, put("éé")), of(4, keep(1, 3)), api.ErrForm},
		{"halves that a copy parts", of(1, put("é"), keep(0, 1), put("é")), of(5, keep(0, 1), keep(2, 3), keep(4, 5)), api.ErrForm},
		{"a surrogate", of(0, put("\ud000\u0800")), of(6, keep(0, 1), keep(4, 6)), api.ErrForm},
		{"one element more", apart, of(most, put("x"), keep(0, most)), api.ErrMany},
		{"two elements more", apart, of(most, keep(0, 5), put("x"), keep(5, most)), api.ErrMany},
		{"twice as many", each(most/2, 0), each(most/4, 0), api.OK},
		{"as many texts as copies", apart, of(most, keep(0, 1), put("x"), keep(1, most-1)), api.OK},
		// Each one ahead of those that are named behind it.
		{"length, then form", wide, of(5, keep(0, 2), keep(3, 5)), api.ErrLen},
		{"length, then many", apart, of(most+1, put("x"), keep(0, most+1)), api.ErrLen},
		{"form, then many", halves, of(most+1, keep(1, 5), put("x"), keep(5, most), put("y")), api.ErrForm},
	} {
		got, err := Two(c.a, c.b)
		if !delta.Is(c.a) || !delta.Is(c.b) {
			t.Fatalf("%s: no deltas", c.what)
		}
		if c.want == api.OK {
			checkTwo(t, c.a, c.b)
		} else if !answers(got, err, c.want) {
			t.Errorf("P13.1: %s: %v, %v, want %v", c.what, got, err, c.want)
		}
	}
}

// At each limit of Two, and at one past it.
func TestTwoLimits(t *testing.T) {
	const most = api.MaxText
	for n := range 3 {
		copies := api.MaxElems - 1 + n
		// The one keeps each other byte of the first half, the other one of the
		// second half.
		half := copies / 2
		rest := copies - half
		a := each(half, 0)
		a.Elems = append(a.Elems, keep(a.Base, a.Base+2*rest))
		a.Base += 2 * rest
		b := of(half+2*rest, keep(0, half+1))
		for i := 1; i < rest; i++ {
			b.Elems = append(b.Elems, keep(half+2*i, half+2*i+1))
		}
		got, err := Two(a, b)
		if copies <= api.MaxElems && (err != api.OK || len(got.Elems) != copies) {
			t.Errorf("P13.1: %d elements: %v, %v", copies, got, err)
		}
		if copies > api.MaxElems && !answers(got, err, api.ErrMany) {
			t.Errorf("P13.1: %d elements: %v, %v", copies, got, err)
		}
	}
	x, y := long(most), strings.Repeat("y", most)
	for _, c := range []struct {
		what       string
		a, b, want api.Delta
	}{
		{"the longest for the longest for the longest", of(most, put(x)), of(most, put(y)), of(most, put(y))},
		{"the longest, kept", of(most, put(x)), delta.Keep(most), of(most, put(x))},
		{"the longest of nothing", of(0, put(x)), of(most, keep(1, most), put("y")), of(0, put(x[1:]+"y"))},
		{"half and half", of(most, keep(0, most/2), put(x[most/2:])), of(most, keep(1, most), put("y")), of(most, keep(1, most/2), put(x[most/2:]+"y"))},
		{"none of the longest", delta.Keep(most), of(most), of(most)},
	} {
		if got, err := Two(c.a, c.b); err != api.OK || !same(got, c.want) {
			t.Errorf("P13.1: %s: %d elements, %v", c.what, len(got.Elems), err)
		}
	}
}

func TestAll(t *testing.T) {
	for _, l := range [][]api.Delta{nil, {}} {
		if d, err := All(l); err != api.OK || !same(d, of(0)) {
			t.Errorf("P13.1: All of none: %v, %v", d, err)
		}
	}
	r := rand.New(rand.NewSource(132))
	found := 0
	for range 1000 {
		base := r.Intn(60)
		s := letters(base)
		made, now := s, row(base)
		var l []api.Delta
		for range 1 + r.Intn(8) {
			d := someDelta(r, len(made), r.Intn(8))
			l = append(l, d)
			made, now = apply(d, made), cells(d, now)
			want, wantErr := least(base, now)
			got, err := All(l)
			if wantErr == api.OK && (err != api.OK || !same(got, want)) || wantErr != api.OK && !answers(got, err, wantErr) {
				t.Fatalf("P13.1: All(%v): %v, %v, want %v, %v", l, got, err, want, wantErr)
			}
			if err != api.OK {
				// What is wrong on the way is told, whatever is behind it.
				checkAllFails(t, l, err)
				break
			}
			found++
			if apply(got, s) != made {
				t.Fatalf("P13.3: All(%v) of %q: %q, want %q", l, s, apply(got, s), made)
			}
		}
	}
	if found < 1000 {
		t.Errorf("only %d lists are all right", found)
	}
}

// checkAllFails fails unless All of l, and of any behind it, is this error.
func checkAllFails(t *testing.T, l []api.Delta, want api.Errno) {
	t.Helper()
	size := delta.Size(l[len(l)-1])
	for _, last := range []api.Delta{of(size), of(size + 1), of(-1)} {
		if got, err := All(append(slices.Clone(l), last)); !answers(got, err, want) {
			t.Fatalf("P13.1: All(%v) and %v: %v, %v, want %v", l, last, got, err, want)
		}
	}
}

func TestAllRows(t *testing.T) {
	in := build(4, change(2, 2, "x"))
	out := build(5, change(2, 3, ""))
	bad := of(-1)
	half := of(5, put("é"), keep(0, 5))
	for _, c := range []struct {
		what string
		l    []api.Delta
		want api.Delta
		err  api.Errno
	}{
		{"one", []api.Delta{in}, in, 0},
		{"one of nothing", []api.Delta{of(0)}, of(0), 0},
		{"one that keeps nothing", []api.Delta{of(9)}, of(9), 0},
		{"one of as many elements as can be", []api.Delta{each(api.MaxElems/2, 3)}, each(api.MaxElems/2, 3), 0},
		{"the longest one", []api.Delta{of(api.MaxText, put(long(api.MaxText)))}, of(api.MaxText, put(long(api.MaxText))), 0},
		{"there and back", []api.Delta{in, out}, delta.Keep(4), 0},
		{"there and back, again", []api.Delta{in, out, in, out, in}, in, 0},
		{"one that is none", []api.Delta{bad}, of(0), api.ErrForm},
		{"the last is none", []api.Delta{in, out, bad}, of(0), api.ErrForm},
		{"the last doesn't fit", []api.Delta{in, out, out}, of(0), api.ErrLen},
		{"the first doesn't fit", []api.Delta{out, out, in}, of(0), api.ErrLen},
		{"the same base", []api.Delta{in, delta.Keep(4)}, of(0), api.ErrLen},
		{"half a code point", []api.Delta{in, half, of(7, keep(1, 7))}, of(0), api.ErrForm},
		{"no fit, then none", []api.Delta{in, in, bad}, of(0), api.ErrLen},
		{"none, then no fit", []api.Delta{in, bad, in, in}, of(0), api.ErrForm},
		{"half a code point, which goes then", []api.Delta{half, of(7, keep(1, 7)), of(6, keep(1, 6))}, of(0), api.ErrForm},
		{"too many, then few", []api.Delta{each(api.MaxElems, 0), of(api.MaxElems, put("x"), keep(0, api.MaxElems)), of(api.MaxElems + 1)}, of(0), api.ErrMany},
		{"too many, then none", []api.Delta{each(api.MaxElems, 0), of(api.MaxElems, put("x"), keep(0, api.MaxElems)), bad}, of(0), api.ErrMany},
	} {
		if got, err := All(c.l); err != c.err || !same(got, c.want) {
			t.Errorf("P13.1: %s: %v, %v, want %v, %v", c.what, got, err, c.want, c.err)
		}
	}
	// Many of them: a byte more each time, then a byte less.
	var l []api.Delta
	for n := range 1000 {
		l = append(l, of(n, keep(0, n), put("x")))
	}
	l[0] = of(0, put("x"))
	if got, err := All(l); err != api.OK || !same(got, of(0, put(long(1000)))) {
		t.Errorf("P13.1: a thousand: %d elements, %v", len(got.Elems), err)
	}
	for n := 1000; n > 0; n-- {
		l = append(l, build(n, change(n-1, n, "")))
	}
	if got, err := All(l); err != api.OK || !same(got, of(0)) {
		t.Errorf("P13.1: a thousand, and back: %v, %v", got, err)
	}
}

// All deltas over some short texts.
func TestInvertShort(t *testing.T) {
	n, halves := 0, 0
	for _, s := range []string{"", "a", "ab", "abc", "é", "aé", "éé", "abcd", "éb", "\u20ac", "\U0001f600", "\u20acx", "aéb"} {
		every(len(s), []string{"", "x", "é"}, func(d api.Delta) {
			n++
			if checkInvert(t, d, s) == api.ErrForm {
				halves++
			}
		})
	}
	if n < 1000 || halves < 300 {
		t.Errorf("only %d deltas, of which %d with half a code point", n, halves)
	}
}

func TestInvertLong(t *testing.T) {
	r := rand.New(rand.NewSource(133))
	told := map[api.Errno]int{}
	for range 3000 {
		base := r.Intn(400)
		s := letters(base)
		if r.Intn(4) == 0 {
			s = strings.Repeat("é", base/2)
		}
		told[checkInvert(t, someDelta(r, len(s), 1+r.Intn(api.MaxElems)), s)]++
	}
	for _, err := range []api.Errno{api.OK, api.ErrForm, api.ErrMany} {
		if told[err] < 50 {
			t.Errorf("%v only %d times", err, told[err])
		}
	}
}

func TestInvertRows(t *testing.T) {
	const most = api.MaxText
	for _, c := range []struct {
		what string
		d    api.Delta
		s    string
		want api.Delta
	}{
		{"nothing of nothing", of(0), "", of(0)},
		{"all is kept", delta.Keep(3), "abc", delta.Keep(3)},
		{"all goes", of(3), "abc", of(0, put("abc"))},
		{"a text of nothing", of(0, put("xé")), "", of(3)},
		{"a text for all", of(3, put("xy")), "abc", of(2, put("abc"))},
		{"a byte for a byte", build(3, change(1, 2, "x")), "abc", of(3, keep(0, 1), put("b"), keep(2, 3))},
		{"the same byte for a byte", build(3, change(1, 2, "b")), "abc", of(3, keep(0, 1), put("b"), keep(2, 3))},
		{"a text between", build(3, change(1, 1, "xy")), "abc", of(5, keep(0, 1), keep(3, 5))},
		{"a hole", build(4, change(1, 3, "")), "abcd", of(2, keep(0, 1), put("bc"), keep(1, 2))},
		{"at both ends", of(3, put("x"), keep(0, 3), put("yz")), "abc", of(6, keep(1, 4))},
		{"both ends go", of(4, keep(1, 3)), "abcd", of(2, put("a"), keep(0, 2), put("d"))},
		{"both ends for texts", of(4, put("xy"), keep(1, 3), put("é")), "abcd", of(6, put("a"), keep(2, 4), put("d"))},
		{"of each kind", of(8, keep(0, 1), put("x"), keep(1, 2), keep(3, 5), put("yz"), keep(6, 7)), "abcdefgh", of(8, keep(0, 1), keep(2, 3), put("c"), keep(3, 5), put("f"), keep(7, 8), put("h"))},
		{"a whole code point", build(4, change(1, 3, "")), "aéb", of(2, keep(0, 1), put("é"), keep(1, 2))},
		{"halves that are one text", build(4, change(0, 1, "x"), change(1, 4, "")), "éé", of(1, put("éé"))},
		{"the longest for the longest", of(most, put(long(most))), letters(most), of(most, put(letters(most)))},
		{"the longest, kept", delta.Keep(most), letters(most), delta.Keep(most)},
		{"a byte of the longest", build(most, change(1, 2, "")), letters(most), of(most-1, keep(0, 1), put("b"), keep(1, most-1))},
	} {
		if got, err := Invert(c.d, c.s); err != api.OK || !same(got, c.want) {
			t.Errorf("P13.2: %s: %v, %v, want %v", c.what, got, err, c.want)
		}
	}
}

func TestInvertErrors(t *testing.T) {
	const most = api.MaxText
	in := build(4, change(2, 2, "x"))
	half := build(2, change(1, 2, ""))
	for _, c := range []struct {
		what string
		d    api.Delta
		s    string
		want api.Errno
	}{
		{"a byte too few", in, "abc", api.ErrLen},
		{"a byte too many", in, "abcde", api.ErrLen},
		{"no bytes", in, "", api.ErrLen},
		{"bytes of nothing", of(0), "a", api.ErrLen},
		{"longer than a text can be", delta.Keep(most), letters(most + 1), api.ErrLen},
		{"far longer than a text can be", in, letters(3 * most), api.ErrLen},
		{"no code points", in, "ab\xff\xff", api.ErrForm},
		{"no code points, all kept", delta.Keep(2), "\xa9\xc3", api.ErrForm},
		{"a surrogate", delta.Keep(3), "\xed\xa0\x80", api.ErrForm},
		{"cut at its end", delta.Keep(1), "é"[:1], api.ErrForm},
		{"no code points, all gone", of(1), "\xff", api.ErrForm},
		{"the second half", half, "é", api.ErrForm},
		{"the first half", build(2, change(0, 1, "")), "é", api.ErrForm},
		{"the first half, for a text", build(2, change(0, 1, "x")), "é", api.ErrForm},
		{"two halves", build(4, change(1, 3, "")), "éé", api.ErrForm},
		{"both halves, one by one", build(5, change(0, 1, ""), change(4, 5, "")), "éaé", api.ErrForm},
		// Each one ahead of those that are named behind it.
		{"form, then length", in, "\xff", api.ErrForm},
		{"form, then length, of too long a text", in, letters(most) + "\xff", api.ErrForm},
		{"length, then half", half, "éa", api.ErrLen},
		{"length, then many", each(31, 0), letters(61), api.ErrLen},
		{"half, then many", each(31, 0), "é" + letters(60), api.ErrForm},
	} {
		if got, err := Invert(c.d, c.s); !answers(got, err, c.want) {
			t.Errorf("P13.2: %s: %v, %v, want %v", c.what, got, err, c.want)
		}
	}
	if got, err := Invert(of(2), "é"); err != api.OK || !same(got, of(0, put("é"))) {
		t.Errorf("P13.2: both halves: %v, %v", got, err)
	}
}

// At each limit of Invert, and at one past it.
func TestInvertLimits(t *testing.T) {
	for n := range 3 {
		// A copy and a text each, the last one a text, or not.
		elems := api.MaxElems - 1 + n
		copies := (elems + 1) / 2
		d := each(copies, 0)
		if elems%2 == 1 {
			d.Base--
		}
		got, err := Invert(d, letters(d.Base))
		if elems <= api.MaxElems && (err != api.OK || len(got.Elems) != elems) {
			t.Errorf("P13.2: %d elements: %v, %v", elems, got, err)
		}
		if elems > api.MaxElems && !answers(got, err, api.ErrMany) {
			t.Errorf("P13.2: %d elements: %v, %v", elems, got, err)
		}
	}
}

// The promise of what it is for: what two do, one behind the other, one does at
// once, to whatever text, and whichever two of three are put together first.
func TestTwiceIsOnce(t *testing.T) {
	r := rand.New(rand.NewSource(134))
	n := 0
	for range 2000 {
		a := someDelta(r, r.Intn(80), r.Intn(12))
		b := someDelta(r, delta.Size(a), r.Intn(12))
		c := someDelta(r, delta.Size(b), r.Intn(12))
		ab, err := Two(a, b)
		bc, err2 := Two(b, c)
		if err != api.OK || err2 != api.OK {
			continue
		}
		left, err := Two(ab, c)
		right, err2 := Two(a, bc)
		all, err3 := All([]api.Delta{a, b, c})
		if err != err2 || err != err3 || !same(left, right) || !same(left, all) {
			t.Fatalf("P13.3: %v, %v, %v: %v, %v, %v", a, b, c, left, right, all)
		}
		if err != api.OK {
			continue
		}
		n++
		for _, s := range []string{letters(a.Base), long(a.Base), strings.Repeat("\xff", a.Base)} {
			if once, thrice := apply(all, s), apply(c, apply(b, apply(a, s))); once != thrice {
				t.Fatalf("P13.3: %v, %v, %v of %q: %q, want %q", a, b, c, s, once, thrice)
			}
		}
	}
	if n < 300 {
		t.Errorf("only %d are all right", n)
	}
	// What is kept is told, not what the text is: a letter in its own place is
	// put in.
	b := build(3, change(1, 2, "b"))
	back, err := Invert(b, "abc")
	if err != api.OK || !same(back, b) {
		t.Errorf("P13.3: %v, %v", back, err)
	}
	if both, err := Two(b, back); err != api.OK || !same(both, b) {
		t.Errorf("P13.3: %v, %v", both, err)
	}
}

// What is handed in, the room behind it too, is neither changed nor kept; what
// is answered, its spare room too, is nobody else's.
func TestMemory(t *testing.T) {
	roomA := []api.Elem{keep(0, 2), put("xyz"), keep(3, 6), put("!"), keep(-1, -1)}
	roomB := []api.Elem{keep(1, 3), put("é"), keep(4, 6), put("?"), keep(-9, -9)}
	a, b := of(6, roomA[:3]...), of(8, roomB[:3]...)
	list := []api.Delta{a, b, of(-1), of(-2)}
	givenA, givenB := slices.Clone(roomA), slices.Clone(roomB)
	want := of(6, keep(1, 2), put("xéz"), keep(3, 4))
	wantBack := of(8, keep(0, 2), put("c"), keep(5, 8))
	answer := func() []api.Delta {
		two, err := Two(a, b)
		both, err2 := All(list[:2])
		one, err3 := All(list[:1])
		back, err4 := Invert(a, "abcdef")
		if err != api.OK || err2 != api.OK || err3 != api.OK || err4 != api.OK {
			t.Fatal(err, err2, err3, err4)
		}
		return []api.Delta{two, both, one, back}
	}
	first, second := answer(), answer()
	if !slices.Equal(roomA, givenA) || !slices.Equal(roomB, givenB) {
		t.Fatalf("P13.1: %v, %v have become %v, %v", givenA, givenB, roomA, roomB)
	}
	if !same(list[0], of(6, givenA[:3]...)) || !same(list[1], of(8, givenB[:3]...)) || list[2].Base != -1 || list[3].Base != -2 {
		t.Fatalf("P13.1: the list has become %v", list)
	}
	for _, d := range first {
		spoil(d.Elems)
	}
	if !slices.Equal(roomA, givenA) || !slices.Equal(roomB, givenB) {
		t.Fatalf("P13.1: an answer shares what was handed in")
	}
	spoil(roomA)
	spoil(roomB)
	for i, d := range []api.Delta{want, want, of(6, givenA[:3]...), wantBack} {
		if !same(second[i], d) {
			t.Errorf("P13.1: answer %d shares memory: %v, want %v", i, second[i], d)
		}
	}
	roomA, roomB = givenA, givenB
	a, b = of(6, roomA[:3]...), of(8, roomB[:3]...)
	list = []api.Delta{a, b}
	for i, d := range answer() {
		if !same(d, second[i]) {
			t.Errorf("P13.1: answer %d isn't made anew: %v", i, d)
		}
	}
}

// spoil writes to all of a list's memory.
func spoil(elems []api.Elem) {
	elems = elems[:cap(elems)]
	for i := range elems {
		elems[i] = api.Elem{From: -9, To: -9, Text: "?"}
	}
}
