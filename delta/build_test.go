package delta

import (
	"math"
	"math/rand"
	"slices"
	"strings"
	"testing"
	"unicode/utf8"

	"palinode/api"
)

func change(from, to int, s string) api.Change { return api.Change{From: from, To: to, Text: s} }

// someChanges are up to n changes of base bytes, in order, as far as there is
// room for them.
func someChanges(r *rand.Rand, base, n int) []api.Change {
	var l []api.Change
	at := 0
	for range r.Intn(n + 1) {
		if at > base {
			break
		}
		from := at + r.Intn(min(base-at, 9)+1)
		if r.Intn(3) == 0 {
			from = at
		}
		to := from + r.Intn(min(base-from, 4)+1)
		l = append(l, change(from, to, []string{"", "", "x", "yz", "é", "\U0001f600"}[r.Intn(6)]))
		at = to
		if from == to {
			at++
		}
	}
	return l
}

// wantElems goes through the places of base bytes one by one, and tells what
// stands there.
func wantElems(base int, l []api.Change) []api.Elem {
	var elems []api.Elem
	for at := 0; at <= base; at++ {
		stays := at < base
		for _, c := range l {
			if c.From == at && c.Text != "" {
				if n := len(elems); n > 0 && elems[n-1].Text != "" {
					elems[n-1].Text += c.Text
				} else {
					elems = append(elems, text(c.Text))
				}
			}
			stays = stays && !(c.From <= at && at < c.To)
		}
		if !stays {
			continue
		}
		if n := len(elems); n > 0 && elems[n-1].Text == "" && elems[n-1].To == at {
			elems[n-1].To++
		} else {
			elems = append(elems, kept(at, at+1))
		}
	}
	return elems
}

// wantError tells the first error by kind.
func wantError(base int, l []api.Change) api.Errno {
	found := map[api.Errno]bool{}
	size := base
	for i, c := range l {
		found[api.ErrRange] = found[api.ErrRange] || c.From < 0 || c.From > c.To || c.To > base
		found[api.ErrForm] = found[api.ErrForm] || !utf8.ValidString(c.Text)
		if i > 0 {
			ahead := l[i-1]
			found[api.ErrOrder] = found[api.ErrOrder] || c.From < ahead.To || c.From == ahead.From && c.From == ahead.To
		}
		size += len(c.Text) + c.From - c.To
	}
	if base < 0 || base > api.MaxText {
		return api.ErrRange
	}
	for _, err := range []api.Errno{api.ErrRange, api.ErrOrder, api.ErrForm} {
		if found[err] {
			return err
		}
	}
	if size > api.MaxText {
		return api.ErrLong
	}
	if len(wantElems(base, l)) > api.MaxElems {
		return api.ErrMany
	}
	return api.OK
}

// checkBuild holds Build against the chapter's words.
func checkBuild(t *testing.T, base int, l []api.Change) {
	t.Helper()
	d, err := Build(base, l)
	if want := wantError(base, l); err != want {
		t.Fatalf("P11.2: Build(%d, %v): %v, want %v", base, l, err, want)
	}
	if err != api.OK {
		if d.Base != 0 || len(d.Elems) != 0 {
			t.Fatalf("P11.2: Build(%d, %v): %v beside an error", base, l, d)
		}
		return
	}
	if want := of(base, wantElems(base, l)...); !Same(d, want) || !Is(d) {
		t.Fatalf("P11.2: Build(%d, %v): %v, want %v", base, l, d, want)
	}
	s := letters(base)
	made, end := "", 0
	for _, c := range l {
		made += s[end:c.From] + c.Text
		end = c.To
	}
	made += s[end:]
	if got, err := Apply(d, s); got != made || err != api.OK {
		t.Fatalf("P11.2: Build(%d, %v): %q of %q, want %q", base, l, got, s, made)
	}
}

// All lists of up to three changes of short texts, in all orders, those that
// can't be among them.
func TestBuildShort(t *testing.T) {
	for base := -1; base <= 3; base++ {
		var some []api.Change
		for from := -1; from <= base+1; from++ {
			for to := max(from-1, 0); to <= base+1; to++ {
				some = append(some, change(from, to, ""), change(from, to, "x"))
			}
		}
		some = append(some, change(1, 1, "é"), change(0, 1, "\xff"))
		checkBuild(t, base, nil)
		for _, a := range some {
			checkBuild(t, base, []api.Change{a})
			for _, b := range some {
				checkBuild(t, base, []api.Change{a, b})
				for _, c := range some {
					checkBuild(t, base, []api.Change{a, b, c})
				}
			}
		}
	}
}

func TestBuildLong(t *testing.T) {
	r := rand.New(rand.NewSource(112))
	many := 0
	for range 1000 {
		base := r.Intn(300)
		l := someChanges(r, base, 70)
		checkBuild(t, base, l)
		if wantError(base, l) == api.ErrMany {
			many++
		}
	}
	if many < 20 || many > 900 {
		t.Errorf("%d of 1000 make too many elements", many)
	}
}

func TestBuildRows(t *testing.T) {
	for _, c := range []struct {
		what string
		base int
		l    []api.Change
		want []api.Elem
	}{
		{"nothing of nothing", 0, nil, nil},
		{"nothing", 5, nil, []api.Elem{kept(0, 5)}},
		{"an empty list", 5, []api.Change{}, []api.Elem{kept(0, 5)}},
		{"all taken away", 5, []api.Change{change(0, 5, "")}, nil},
		{"all else", 5, []api.Change{change(0, 5, "x")}, []api.Elem{text("x")}},
		{"nothing for nothing", 5, []api.Change{change(2, 2, "")}, []api.Elem{kept(0, 5)}},
		{"nothing for nothing, often", 5, []api.Change{change(0, 0, ""), change(1, 1, ""), change(5, 5, "")}, []api.Elem{kept(0, 5)}},
		{"at both ends", 5, []api.Change{change(0, 0, "x"), change(5, 5, "y")}, []api.Elem{text("x"), kept(0, 5), text("y")}},
		{"between", 5, []api.Change{change(2, 2, "x")}, []api.Elem{kept(0, 2), text("x"), kept(2, 5)}},
		{"ahead of what isn't kept", 5, []api.Change{change(1, 2, ""), change(2, 3, ""), change(3, 4, "x")}, []api.Elem{kept(0, 1), text("x"), kept(4, 5)}},
		{"texts that nothing kept is between", 5, []api.Change{change(1, 2, "x"), change(2, 3, ""), change(3, 3, "y"), change(4, 4, "z")}, []api.Elem{kept(0, 1), text("xy"), kept(3, 4), text("z"), kept(4, 5)}},
		{"at the To of the one ahead", 5, []api.Change{change(1, 3, "x"), change(3, 3, "y")}, []api.Elem{kept(0, 1), text("xy"), kept(3, 5)}},
		{"nothing for nothing behind what isn't kept", 5, []api.Change{change(1, 3, ""), change(3, 3, "")}, []api.Elem{kept(0, 1), kept(3, 5)}},
		{"bytes taken away side by side", 5, []api.Change{change(1, 2, ""), change(2, 4, "")}, []api.Elem{kept(0, 1), kept(4, 5)}},
	} {
		d, err := Build(c.base, c.l)
		if err != api.OK || !Same(d, of(c.base, c.want...)) {
			t.Errorf("P11.2: %s: %v, %v, want %v", c.what, d, err, c.want)
		}
	}
}

func TestBuildErrors(t *testing.T) {
	const least, most = math.MinInt, math.MaxInt
	long := strings.Repeat("x", api.MaxText)
	fine := change(0, 1, "x")
	for _, c := range []struct {
		what string
		base int
		l    []api.Change
		want api.Errno
	}{
		{"a base below 0", -1, nil, api.ErrRange},
		{"a base far below 0", least, nil, api.ErrRange},
		{"a base too long", api.MaxText + 1, nil, api.ErrRange},
		{"a base far too long", most, []api.Change{change(0, most, "")}, api.ErrRange},
		{"a base too long, all of it away", api.MaxText + 1, []api.Change{change(0, api.MaxText+1, "")}, api.ErrRange},
		{"From below 0", 5, []api.Change{change(-1, 1, "")}, api.ErrRange},
		{"From above To", 5, []api.Change{change(2, 1, "")}, api.ErrRange},
		{"To beyond the end", 5, []api.Change{change(5, 6, "")}, api.ErrRange},
		{"both beyond the end", 5, []api.Change{change(6, 6, "")}, api.ErrRange},
		{"all numbers", 5, []api.Change{change(least, most, "")}, api.ErrRange},
		{"From far above To", 5, []api.Change{change(most, least, "")}, api.ErrRange},
		{"the last one beyond the end", 5, []api.Change{fine, change(2, 6, "")}, api.ErrRange},
		{"below the To ahead", 5, []api.Change{change(0, 3, ""), change(2, 4, "")}, api.ErrOrder},
		{"falling", 5, []api.Change{change(3, 4, ""), fine}, api.ErrOrder},
		{"at the same place", 5, []api.Change{change(2, 2, "x"), change(2, 2, "y")}, api.ErrOrder},
		{"at the same place, bytes", 5, []api.Change{change(2, 2, ""), change(2, 4, "")}, api.ErrOrder},
		{"at the same From", 5, []api.Change{change(2, 4, "x"), change(2, 4, "x")}, api.ErrOrder},
		{"no text", 5, []api.Change{fine, change(1, 2, "\xff")}, api.ErrForm},
		{"half a code point", 5, []api.Change{change(1, 2, "é"[:1])}, api.ErrForm},
		{"too long", 0, []api.Change{change(0, 0, long+"x")}, api.ErrLong},
		{"too long by what is kept", 5, []api.Change{change(0, 4, long)}, api.ErrLong},
		{"too long by two texts", 2, []api.Change{change(0, 1, long[1:]), change(1, 2, "xx")}, api.ErrLong},
		// Each one ahead of those that are named behind it, wherever it stands.
		{"range, then order", 5, []api.Change{change(3, 4, ""), fine, change(5, 6, "")}, api.ErrRange},
		{"range, then form", 5, []api.Change{change(0, 1, "\xff"), change(5, 6, "")}, api.ErrRange},
		{"range, then long", 5, []api.Change{change(0, 1, long), change(5, 6, "")}, api.ErrRange},
		{"a base, then order", -1, []api.Change{change(3, 4, "\xff"), fine}, api.ErrRange},
		{"order, then form", 5, []api.Change{change(1, 2, "\xff"), fine}, api.ErrOrder},
		{"order, then long", 5, []api.Change{change(1, 2, long), fine}, api.ErrOrder},
		{"form, then long", 5, []api.Change{change(1, 2, long), change(2, 3, "\xff")}, api.ErrForm},
		{"long, then many", 200, append(inserting(31), change(100, 100, long)), api.ErrLong},
	} {
		if d, err := Build(c.base, c.l); err != c.want || d.Base != 0 || len(d.Elems) != 0 {
			t.Errorf("P11.2: %s: %v, %v, want %v", c.what, d, err, c.want)
		}
	}
}

// inserting are n changes that put in one byte each, behind a kept byte each.
func inserting(n int) []api.Change {
	var l []api.Change
	for i := range n {
		l = append(l, change(i+1, i+1, "x"))
	}
	return l
}

// At each limit, and at one past it.
func TestBuildLimits(t *testing.T) {
	for n := range 3 {
		// n changes give 2n elements, one more, if something is behind them.
		half := api.MaxElems/2 - 1 + n
		for more := range 2 {
			l := inserting(half)
			d, err := Build(half+more, l)
			if 2*half+more <= api.MaxElems {
				if err != api.OK || len(d.Elems) != 2*half+more || !Is(d) {
					t.Errorf("P11.2: %d elements: %d, %v", 2*half+more, len(d.Elems), err)
				}
			} else if err != api.ErrMany || d.Base != 0 || len(d.Elems) != 0 {
				t.Errorf("P11.2: %d elements: %v, %v", 2*half+more, d, err)
			}
		}
	}
	long := strings.Repeat("x", api.MaxText)
	for _, c := range []struct {
		base int
		l    []api.Change
		want api.Delta
	}{
		{0, []api.Change{change(0, 0, long)}, of(0, text(long))},
		{5, []api.Change{change(0, 5, long)}, of(5, text(long))},
		{5, []api.Change{change(1, 2, long[4:])}, of(5, kept(0, 1), text(long[4:]), kept(2, 5))},
		{api.MaxText, nil, of(api.MaxText, kept(0, api.MaxText))},
		{api.MaxText, []api.Change{change(1, 2, "y")}, of(api.MaxText, kept(0, 1), text("y"), kept(2, api.MaxText))},
	} {
		if d, err := Build(c.base, c.l); err != api.OK || !Same(d, c.want) || !Is(d) || Size(d) != api.MaxText {
			t.Errorf("P11.2: as long as can be, of %d: %d elements, %v", c.base, len(d.Elems), err)
		}
	}
	for _, c := range []struct {
		base int
		l    []api.Change
	}{
		{api.MaxText, []api.Change{change(1, 1, "y")}},
		{api.MaxText, []api.Change{change(1, 2, "é")}},
		{5, []api.Change{change(1, 2, long[3:])}},
	} {
		if d, err := Build(c.base, c.l); err != api.ErrLong || d.Base != 0 || len(d.Elems) != 0 {
			t.Errorf("P11.2: one byte too long, of %d: %d elements, %v", c.base, len(d.Elems), err)
		}
	}
}

// Many changes may be few elements.
func TestBuildMany(t *testing.T) {
	var each, none []api.Change
	for at := range api.MaxText {
		each = append(each, change(at, at+1, "x"))
		none = append(none, change(at, at, ""))
	}
	d, err := Build(api.MaxText, each)
	if err != api.OK || !Same(d, of(api.MaxText, text(strings.Repeat("x", api.MaxText)))) {
		t.Errorf("P11.2: each byte another one: %d elements, %v", len(d.Elems), err)
	}
	d, err = Build(api.MaxText, none)
	if err != api.OK || !Same(d, Keep(api.MaxText)) {
		t.Errorf("P11.2: nothing at each byte: %d elements, %v", len(d.Elems), err)
	}
	d, err = Build(api.MaxText, append(each, each...))
	if err != api.ErrOrder || len(d.Elems) != 0 {
		t.Errorf("P11.2: each byte twice: %d elements, %v", len(d.Elems), err)
	}
}

func TestKeep(t *testing.T) {
	for _, c := range []struct {
		base int
		want api.Delta
	}{
		{math.MinInt, of(0)},
		{-1, of(0)},
		{0, of(0)},
		{1, of(1, kept(0, 1))},
		{7, of(7, kept(0, 7))},
		{api.MaxText, of(api.MaxText, kept(0, api.MaxText))},
		{api.MaxText + 1, of(api.MaxText, kept(0, api.MaxText))},
		{math.MaxInt, of(api.MaxText, kept(0, api.MaxText))},
	} {
		d := Keep(c.base)
		if !Same(d, c.want) || !Is(d) || Drops(d) != 0 || Adds(d) != 0 {
			t.Errorf("P11.2: Keep(%d): %v", c.base, d)
		}
		if built, err := Build(d.Base, nil); err != api.OK || !Same(built, d) {
			t.Errorf("P11.2: Build of no changes of %d: %v, %v", d.Base, built, err)
		}
		s := letters(d.Base)
		if got, err := Apply(d, s); got != s || err != api.OK {
			t.Errorf("P11.2: Apply of Keep(%d): %d bytes, %v", c.base, len(got), err)
		}
	}
}

// What is handed in, the room behind it too, is neither changed nor kept; what
// is answered, its spare room too, is nobody else's.
func TestBuildMemory(t *testing.T) {
	room := []api.Change{change(0, 1, "x"), change(1, 2, "y"), change(3, 4, ""), change(5, 5, "z"), change(9, 9, "!")}
	given := slices.Clone(room)
	want := of(5, text("xy"), kept(2, 3), kept(4, 5), text("z"))
	a, _ := Build(5, room[:4])
	b, _ := Build(5, room[:4])
	if !slices.Equal(room, given) {
		t.Errorf("P11.2: %v has become %v", given, room)
	}
	spoil(a.Elems)
	for i := range room {
		room[i] = change(-7, -7, "?")
	}
	if !Same(b, want) {
		t.Errorf("P11.2: an answer shares memory: %v", b)
	}
	if again, err := Build(5, given[:4]); err != api.OK || !Same(again, want) {
		t.Errorf("P11.2: an answer isn't made anew: %v, %v", again, err)
	}
	c, d := Keep(5), Keep(5)
	spoil(c.Elems)
	if !Same(d, of(5, kept(0, 5))) || !Same(Keep(5), d) {
		t.Errorf("P11.2: Keep's answers share memory: %v", d)
	}
}

// spoil writes to all of a list's memory.
func spoil(elems []api.Elem) {
	elems = elems[:cap(elems)]
	for i := range elems {
		elems[i] = api.Elem{From: -9, To: -9, Text: "?"}
	}
}

// The chapter's example.
func TestExample(t *testing.T) {
	d, err := Build(3, []api.Change{change(1, 2, "x")})
	if err != api.OK || !Same(d, of(3, kept(0, 1), text("x"), kept(2, 3))) {
		t.Errorf("P11.2: the example: %v, %v", d, err)
	}
}
