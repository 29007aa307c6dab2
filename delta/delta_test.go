package delta

import (
	"math"
	"math/rand"
	"slices"
	"strings"
	"testing"
	"unicode/utf8"

	"palinode/api"
)

func kept(from, to int) api.Elem { return api.Elem{From: from, To: to} }

func text(s string) api.Elem { return api.Elem{Text: s} }

func of(base int, elems ...api.Elem) api.Delta { return api.Delta{Base: base, Elems: elems} }

// letters is a text of n bytes.
func letters(n int) string {
	var b strings.Builder
	for i := range n {
		b.WriteByte(byte('a' + i%26))
	}
	return b.String()
}

// alternating are n elements of 2n bytes: copies of one byte, and between them
// texts of one byte.
func alternating(n int) []api.Elem {
	var elems []api.Elem
	for i := range n {
		if i%2 == 0 {
			elems = append(elems, kept(2*i, 2*i+1))
		} else {
			elems = append(elems, text("x"))
		}
	}
	return elems
}

// isCopyOf and isInsertOf are the chapter's words, each for itself.
func isCopyOf(e api.Elem, base int) bool {
	return e.Text == "" && 0 <= e.From && e.From < e.To && e.To <= base
}

func isInsertOf(e api.Elem) bool {
	return e.Text != "" && utf8.ValidString(e.Text) && e.From == 0 && e.To == 0
}

// stands tells whether element i may stand behind those ahead of it.
func stands(elems []api.Elem, i int) bool {
	if isInsertOf(elems[i]) {
		return i == 0 || elems[i-1].Text == ""
	}
	put := false
	for j := i - 1; j >= 0; j-- {
		if elems[j].Text == "" {
			return elems[i].From > elems[j].To || put && elems[i].From == elems[j].To
		}
		put = true
	}
	return true
}

// wantIs tells by the chapter's words whether d is a delta, and its bytes:
// those copied and those put in.
func wantIs(d api.Delta) (is bool, copies, inserts int) {
	is = d.Base >= 0 && d.Base <= api.MaxText && len(d.Elems) <= api.MaxElems
	for i, e := range d.Elems {
		if !isCopyOf(e, d.Base) && !isInsertOf(e) || !stands(d.Elems, i) {
			return false, 0, 0
		}
		copies += e.To - e.From
		inserts += len(e.Text)
	}
	if !is || copies+inserts > api.MaxText {
		return false, 0, 0
	}
	return true, copies, inserts
}

// wantApply is what is made of s, piece by piece.
func wantApply(d api.Delta, s string) string {
	made := ""
	for _, e := range d.Elems {
		if e.Text == "" {
			made += s[e.From:e.To]
		}
		made += e.Text
	}
	return made
}

// checkDelta holds all that is told of d against the chapter's words.
func checkDelta(t *testing.T, d api.Delta) {
	t.Helper()
	is, copies, inserts := wantIs(d)
	drops := 0
	if is {
		drops = d.Base - copies
	}
	if got := Is(d); got != is {
		t.Fatalf("P11.1: Is(%v): %v", d, got)
	}
	if got := [3]int{Size(d), Adds(d), Drops(d)}; got != [3]int{copies + inserts, inserts, drops} {
		t.Fatalf("P11.1: Size, Adds, Drops of %v: %v, want %v", d, got, [3]int{copies + inserts, inserts, drops})
	}
	for n := range 4 {
		s := "bcd"[:n]
		got, err := Apply(d, s)
		switch {
		case !is:
			if got != "" || err != api.ErrForm {
				t.Fatalf("P11.1: Apply of no delta %v: %q, %v", d, got, err)
			}
		case n != d.Base:
			if got != "" || err != api.ErrLen {
				t.Fatalf("P11.1: Apply(%v, %q): %q, %v", d, s, got, err)
			}
		default:
			if want := wantApply(d, s); got != want || err != api.OK || len(got) != Size(d) {
				t.Fatalf("P11.1: Apply(%v, %q): %q, %v, want %q", d, s, got, err, want)
			}
		}
	}
}

// Bases around a text of three bytes, and all rows of up to four elements, those
// of no form among them.
func TestAllShort(t *testing.T) {
	var some []api.Elem
	for from := -1; from <= 4; from++ {
		for to := max(from-1, -1); to <= 4; to++ {
			some = append(some, kept(from, to))
		}
	}
	for _, e := range []api.Elem{{Text: "x"}, {Text: "é"}, {Text: "\xff"}, {From: 0, To: 1, Text: "x"}, {From: 1, To: 1, Text: "x"}, {From: 0, To: -1, Text: "x"}} {
		some = append(some, e)
	}
	for base := -1; base <= 3; base++ {
		checkDelta(t, of(base))
		for _, a := range some {
			checkDelta(t, of(base, a))
			for _, b := range some {
				checkDelta(t, of(base, a, b))
				for _, c := range some {
					checkDelta(t, of(base, a, b, c))
				}
			}
		}
	}
	few := []api.Elem{kept(0, 1), kept(1, 2), kept(2, 3), kept(0, 2), kept(1, 3), text("x"), text("y")}
	for _, a := range few {
		for _, b := range few {
			for _, c := range few {
				for _, d := range few {
					checkDelta(t, of(3, a, b, c, d))
				}
			}
		}
	}
}

func TestIs(t *testing.T) {
	const least, most = math.MinInt, math.MaxInt
	longest := strings.Repeat("x", api.MaxText)
	half := strings.Repeat("é", api.MaxText/4)
	for _, c := range []struct {
		what string
		d    api.Delta
		want bool
	}{
		{"nothing", of(0), true},
		{"nothing of the longest", of(api.MaxText), true},
		{"all of the longest", of(api.MaxText, kept(0, api.MaxText)), true},
		{"below 0", of(-1), false},
		{"far below 0", of(least), false},
		{"a base too long", of(api.MaxText + 1), false},
		{"a base far too long", of(most, kept(0, most)), false},
		{"the longest put in", of(0, text(longest)), true},
		{"the longest instead of the longest", of(api.MaxText, text(longest)), true},
		{"one byte too many put in", of(0, text(longest+"x")), false},
		{"one byte too many, of a copy", of(1, kept(0, 1), text(longest)), false},
		{"two halves", of(api.MaxText, kept(0, api.MaxText/2), text(half)), true},
		{"two halves and one byte", of(api.MaxText, kept(0, api.MaxText/2+1), text(half)), false},
		{"halves of texts", of(3, text(half), kept(1, 2), text(half[2:])), true},
		{"halves of texts and one byte", of(3, text(half), kept(1, 2), text(half)), false},
		{"as many elements as there can be", of(200, alternating(api.MaxElems)...), true},
		{"one more element", of(200, alternating(api.MaxElems+1)...), false},
		{"copies that touch", of(3, kept(0, 1), kept(1, 2)), false},
		{"copies that a text parts", of(3, kept(0, 1), text("x"), kept(1, 2)), true},
		{"copies apart", of(3, kept(0, 1), kept(2, 3)), true},
		{"a text between copies that don't rise", of(3, kept(0, 2), text("x"), kept(1, 3)), false},
		{"a copy back to the beginning", of(3, kept(1, 2), text("x"), kept(0, 1)), false},
		{"texts that a copy parts", of(3, text("x"), kept(0, 1), text("y")), true},
		{"texts beside one another", of(3, kept(0, 1), text("x"), text("y")), false},
		{"a copy of nothing", of(3, kept(1, 1)), false},
		{"a text of nothing", of(3, text("")), false},
		{"a text within a code point", of(3, text("\x82\xac")), false},
		{"a text of a surrogate", of(3, text("\xed\xa0\x80")), false},
		{"a text from a place", of(3, api.Elem{From: 1, To: 1, Text: "x"}), false},
		{"a text of kept bytes", of(3, api.Elem{To: 2, Text: "x"}), false},
		{"a copy from far below", of(3, kept(least, 2)), false},
		{"a copy to far below", of(3, kept(0, least)), false},
		{"a copy to far behind", of(3, kept(0, most)), false},
		{"a copy of all numbers", of(3, kept(least, most)), false},
		{"a copy behind one that is too long", of(3, kept(0, most), kept(least, 1)), false},
	} {
		if got := Is(c.d); got != c.want {
			t.Errorf("P11.1: Is of %s: %v", c.what, got)
		}
		if !c.want && (Size(c.d) != 0 || Adds(c.d) != 0 || Drops(c.d) != 0) {
			t.Errorf("P11.1: Size, Adds, Drops of %s: %d, %d, %d", c.what, Size(c.d), Adds(c.d), Drops(c.d))
		}
		if s, err := Apply(c.d, "?!"); s != "" || c.want && err != api.ErrLen || !c.want && err != api.ErrForm {
			t.Errorf("P11.1: Apply of %s: %q, %v", c.what, s, err)
		}
	}
}

func TestCounts(t *testing.T) {
	for _, c := range []struct {
		d                 api.Delta
		size, adds, drops int
	}{
		{of(0), 0, 0, 0},
		{of(5), 0, 0, 5},
		{of(5, kept(0, 5)), 5, 0, 0},
		{of(5, kept(1, 2), kept(4, 5)), 2, 0, 3},
		{of(5, text("é"), kept(1, 4), text("yz")), 7, 4, 2},
		{of(5, kept(0, 5), kept(5, 6)), 0, 0, 0},
		{of(-5, text("x")), 0, 0, 0},
		{of(api.MaxText+1, text("x")), 0, 0, 0},
	} {
		if got := [3]int{Size(c.d), Adds(c.d), Drops(c.d)}; got != [3]int{c.size, c.adds, c.drops} {
			t.Errorf("P11.1: Size, Adds, Drops of %v: %v", c.d, got)
		}
	}
}

func TestSame(t *testing.T) {
	a := of(5, kept(0, 2), text("x"), kept(3, 5))
	for _, c := range []struct {
		what string
		b    api.Delta
		want bool
	}{
		{"itself", a, true},
		{"another list", of(5, slices.Clone(a.Elems)...), true},
		{"a text of another place", of(5, kept(0, 2), text(string([]byte{'x'})), kept(3, 5)), true},
		{"another base", of(6, a.Elems...), false},
		{"fewer", of(5, a.Elems[:2]...), false},
		{"none", of(5), false},
		{"more", of(5, append(slices.Clone(a.Elems), text("y"))...), false},
		{"another From", of(5, kept(1, 2), text("x"), kept(3, 5)), false},
		{"another To", of(5, kept(0, 2), text("x"), kept(3, 4)), false},
		{"another text", of(5, kept(0, 2), text("y"), kept(3, 5)), false},
		{"another last one", of(5, kept(0, 2), text("x"), text("z")), false},
	} {
		if Same(a, c.b) != c.want || Same(c.b, a) != c.want {
			t.Errorf("P11.1: Same of %s: %v", c.what, !c.want)
		}
	}
	if !Same(api.Delta{Base: 5}, api.Delta{Base: 5, Elems: []api.Elem{}}) {
		t.Error("P11.1: Same of nil and an empty list")
	}
	// Of what is no delta, too, and as it is told, not as it works.
	no := of(-1, text("x"), text("y"))
	if !Same(no, no) || Same(no, of(-1, text("xy"))) || Same(of(-1), of(-2)) {
		t.Error("P11.1: Same of no delta")
	}
}

func TestApply(t *testing.T) {
	for _, c := range []struct {
		d    api.Delta
		s    string
		want string
		err  api.Errno
	}{
		{of(0), "", "", 0},
		{of(3), "abc", "", 0},
		{of(3, kept(0, 3)), "abc", "abc", 0},
		{of(3, text("xé"), kept(0, 1), kept(2, 3), text("y")), "abc", "xéacy", 0},
		// Bytes are kept, not code points.
		{of(2, kept(1, 2)), "é", "\xa9", 0},
		{of(2, kept(0, 2)), "\xff\xfe", "\xff\xfe", 0},
		{of(3), "ab", "", api.ErrLen},
		{of(3, text("x")), "abcd", "", api.ErrLen},
		{of(0, text("x")), "a", "", api.ErrLen},
		// Its form is ahead of its length.
		{of(3, kept(0, 4)), "abcd", "", api.ErrForm},
		{of(-1), "", "", api.ErrForm},
		{of(3, text("x"), text("y")), "abc", "", api.ErrForm},
	} {
		if got, err := Apply(c.d, c.s); got != c.want || err != c.err {
			t.Errorf("P11.1: Apply(%v, %q): %q, %v", c.d, c.s, got, err)
		}
	}
	long := letters(api.MaxText)
	d := of(api.MaxText, kept(1, api.MaxText), text("x"))
	if got, err := Apply(d, long); got != long[1:]+"x" || err != api.OK {
		t.Errorf("P11.1: Apply to the longest: %d bytes, %v", len(got), err)
	}
	if got, err := Apply(d, long+"y"); got != "" || err != api.ErrLen {
		t.Errorf("P11.1: Apply to one byte more than the longest: %d bytes, %v", len(got), err)
	}
}

// What is handed in, the room behind it too, stays as it is.
func TestHandedIn(t *testing.T) {
	room := []api.Elem{kept(0, 1), text("x"), kept(2, 3), text("y"), kept(4, 4)}
	given := slices.Clone(room)
	for n := range len(room) {
		d := of(3, room[:n]...)
		Is(d)
		Same(d, d)
		Size(d)
		Adds(d)
		Drops(d)
		Apply(d, "abc")
	}
	if !slices.Equal(room, given) {
		t.Errorf("P11.1: %v has become %v", given, room)
	}
}

// The promise of what it is for: a delta tells what stays, whatever the text is:
// each byte of which no change is stays, and no other one, be it the same.
func TestWhatStays(t *testing.T) {
	r := rand.New(rand.NewSource(113))
	for range 500 {
		base := r.Intn(200)
		l := someChanges(r, base, 6)
		d, err := Build(base, l)
		if err != api.OK {
			t.Fatalf("P11.3: Build(%d, %v): %v", base, l, err)
		}
		stays := make([]bool, base)
		for _, e := range d.Elems {
			for at := e.From; at < e.To; at++ {
				stays[at] = true
			}
		}
		changed := 0
		for at := range base {
			in := slices.ContainsFunc(l, func(c api.Change) bool { return c.From <= at && at < c.To })
			if in {
				changed++
			}
			if stays[at] == in {
				t.Fatalf("P11.3: Build(%d, %v): %v, at %d", base, l, d, at)
			}
		}
		if Drops(d) != changed {
			t.Fatalf("P11.3: Drops of %v: %d, want %d", d, Drops(d), changed)
		}
	}
	// The same letter in its place is put in; it doesn't stay.
	d, _ := Build(3, []api.Change{{From: 1, To: 2, Text: "b"}})
	if s, _ := Apply(d, "abc"); s != "abc" || Same(d, Keep(3)) || Adds(d) != 1 || Drops(d) != 1 {
		t.Errorf("P11.3: b instead of b: %v", d)
	}
	// What stays tells the change: other texts are changed by it alike.
	for _, s := range []string{"abc", "xyz", "\n\n\n"} {
		if got, _ := Apply(d, s); got != s[:1]+"b"+s[2:] {
			t.Errorf("P11.3: of %q: %q", s, got)
		}
	}
}
