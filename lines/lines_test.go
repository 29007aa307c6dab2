package lines

import (
	"math"
	"math/rand"
	"runtime"
	"slices"
	"strings"
	"testing"
	"time"
	"unicode/utf8"

	"palinode/api"
	"palinode/rope"
)

// far are numbers that are beyond any text.
var far = []int{math.MinInt, math.MinInt + 1, -64, -1, api.MaxText + 1, math.MaxInt - 1, math.MaxInt}

// units are code points of all sizes, and a line end.
var units = []string{"a", "\n", "é", "€", "\U0001f600"}

// shortTexts have each place of theirs looked at.
var shortTexts = []string{
	"", "a", "\n", "é", "€", "\U0001f600", "a\nb", "a\nb\n", "\n\n", "\n\nx", "x\n\n", "\r\n\r\n", "\r", "\u0085\u2028\u2029\v\f",
	"é\n€\U0001f600\n", "\x00\n\x00", "\ufffd\n", "\U0010ffff\n\uffff\U00010000", "ab\néé\n€€€\n\U0001f600\U0001f600",
}

// ropeOf is s's, which must not be refused.
func ropeOf(t *testing.T, s string) *rope.Rope {
	t.Helper()
	r, e := rope.New(s)
	if e != api.OK {
		t.Fatalf("New of %d bytes: %v", len(s), e)
	}
	return r
}

// someText is a Valid one of n bytes or a few more.
func someText(r *rand.Rand, n int) string {
	var b strings.Builder
	for b.Len() < n {
		b.WriteString(units[r.Intn(len(units))])
	}
	return b.String()
}

// edited is a rope whose pieces came to lie by some edits, and its text.
func edited(t *testing.T, r *rand.Rand) (*rope.Rope, string) {
	t.Helper()
	s := someText(r, r.Intn(500))
	x := ropeOf(t, s)
	for range 20 {
		from := r.Intn(len(s) + 1)
		to := min(from+r.Intn(80), len(s))
		for !edge(s, from) {
			from--
		}
		for !edge(s, to) {
			to++
		}
		in := someText(r, r.Intn(90))
		y, e := x.Replace(from, to, in)
		if e != api.OK {
			t.Fatal(e)
		}
		x, s = y, s[:from]+in+s[to:]
	}
	return x, s
}

// edge tells whether at, a place of s, a Valid text, or its end, is one.
func edge(s string, at int) bool {
	return at == len(s) || utf8.RuneStart(s[at])
}

// places are those of a text of n bytes, and some beyond.
func places(n int) []int {
	l := slices.Clone(far)
	for i := range n + 3 {
		l = append(l, i)
	}
	return l
}

// checkLines fails unless Count and Line tell what they are to tell of s, r's
// text.
func checkLines(t *testing.T, r *rope.Rope, s string) {
	t.Helper()
	want := strings.Split(s, "\n")
	if got := Count(r); got != len(want) {
		t.Fatalf("P6.1: Count of %q: %d", s, got)
	}
	for n, w := range want {
		if got, e := Line(r, n); got != w || e != api.OK {
			t.Fatalf("P6.1: Line %d of %q: %q, %v", n, s, got, e)
		}
	}
	for _, n := range append(slices.Clone(far), len(want), len(want)+1) {
		if got, e := Line(r, n); got != "" || e != api.ErrRange {
			t.Fatalf("P6.1: Line %d of %q: %q, %v", n, s, got, e)
		}
	}
}

// placed is what At tells.
type placed struct {
	line, points int
	e            api.Errno
}

// placeOf is what At is to tell of s.
func placeOf(s string, at int) placed {
	if at < 0 || at > len(s) {
		return placed{e: api.ErrRange}
	}
	if !edge(s, at) {
		return placed{e: api.ErrSplit}
	}
	ahead := strings.Split(s[:at], "\n")
	n := len(ahead) - 1
	return placed{n, utf8.RuneCountInString(ahead[n]), api.OK}
}

// checkAt fails unless At tells what it is to tell of s, r's text.
func checkAt(t *testing.T, r *rope.Rope, s string, places []int) {
	t.Helper()
	for _, at := range places {
		n, k, e := At(r, at)
		if got, want := (placed{n, k, e}), placeOf(s, at); got != want {
			t.Fatalf("P6.1: At %d of %q: %v, want %v", at, s, got, want)
		}
	}
}

func TestExample(t *testing.T) {
	if l, e := Line(ropeOf(t, "a\nb"), 1); l != "b" || e != api.OK {
		t.Errorf("P6.1: %q, %v", l, e)
	}
}

func TestLinesOfShortTexts(t *testing.T) {
	for _, s := range shortTexts {
		r := ropeOf(t, s)
		checkLines(t, r, s)
		checkAt(t, r, s, places(len(s)))
	}
	unclean := ropeOf(t, "a\xff\n\xc3")
	checkLines(t, unclean, "a\ufffd\n\ufffd")
	checkAt(t, unclean, "a\ufffd\n\ufffd", places(8))
}

func TestLinesOfEditedTexts(t *testing.T) {
	rnd := rand.New(rand.NewSource(1))
	for range 20 {
		r, s := edited(t, rnd)
		checkLines(t, r, s)
		checkAt(t, r, s, places(len(s)))
	}
}

// longTexts are of as many bytes as there may be: of short lines, of one line,
// of line ends alone, with one line end at either end.
func longTexts() []string {
	var l []string
	for _, u := range append(slices.Clone(units), "a line\n", "é€\U0001f600\n") {
		s := strings.Repeat(u, api.MaxText/len(u))
		l = append(l, s+strings.Repeat("x", api.MaxText-len(s)))
	}
	one := strings.Repeat("x", api.MaxText-1)
	return append(l, "\n"+one, one+"\n")
}

func TestLinesAtTheLimit(t *testing.T) {
	rnd := rand.New(rand.NewSource(2))
	for _, s := range longTexts() {
		r := ropeOf(t, s)
		some := slices.Clone(far)
		for i := range 8 {
			some = append(some, i, len(s)-i, len(s)/2-i, rnd.Intn(len(s)))
		}
		checkAt(t, r, s, some)
		want := strings.Split(s, "\n")
		if got := Count(r); got != len(want) {
			t.Fatalf("P6.1: %d lines, want %d", got, len(want))
		}
		for _, n := range []int{0, len(want) / 2, len(want) - 1} {
			if got, e := Line(r, n); got != want[n] || e != api.OK {
				t.Fatalf("P6.1: Line %d of %d: %q, %v", n, len(want), got, e)
			}
		}
		if got, e := Line(r, len(want)); got != "" || e != api.ErrRange {
			t.Fatalf("P6.1: Line %d of %d: %q, %v", len(want), len(want), got, e)
		}
	}
}

// errorOf is what Pieces is to tell of a row of bytes of s.
func errorOf(s string, from, to, most int) api.Errno {
	switch {
	case from < 0 || from > to || to > len(s):
		return api.ErrRange
	case !edge(s, from) || !edge(s, to):
		return api.ErrSplit
	case most < 4:
		return api.ErrForm
	}
	return api.OK
}

// checkPieces fails unless Pieces tells what it is to tell of s, r's text: each
// piece is Valid and fits, and with the next code point it wouldn't.
func checkPieces(t *testing.T, r *rope.Rope, s string, from, to, most int) {
	t.Helper()
	l, e := Pieces(r, from, to, most)
	if want := errorOf(s, from, to, most); e != want {
		t.Fatalf("P6.2: Pieces of %q, %d, %d, %d: %v, want %v", s, from, to, most, e, want)
	}
	if e != api.OK {
		if len(l) != 0 {
			t.Fatalf("P6.2: Pieces of %q, %d, %d, %d: %q beside %v", s, from, to, most, l, e)
		}
		return
	}
	if strings.Join(l, "") != s[from:to] {
		t.Fatalf("P6.3: Pieces of %q, %d, %d, %d: %q", s, from, to, most, l)
	}
	for i, p := range l {
		if p == "" || len(p) > most || !utf8.ValidString(p) {
			t.Fatalf("P6.2: Pieces of %q, %d, %d, %d: %q", s, from, to, most, p)
		}
		if i+1 == len(l) {
			break
		}
		if _, next := utf8.DecodeRuneInString(l[i+1]); len(p)+next <= most {
			t.Fatalf("P6.2: Pieces of %q, %d, %d, %d: %q ahead of %q", s, from, to, most, p, l[i+1])
		}
	}
}

// bounds are some of a piece's bytes: too small ones, ordinary ones, ones beyond
// all texts.
var bounds = []int{math.MinInt, -4, -1, 0, 1, 2, 3, 4, 5, 6, 7, 8, 9, 31, 63, 64, 65, 200, api.MaxText, math.MaxInt - 1, math.MaxInt}

func TestPieces(t *testing.T) {
	s := "ab\u00e9\u20ac\U0001f600cdefg"
	for _, c := range []struct {
		from, to, most int
		want           []string
	}{
		{0, 16, 4, []string{"abé", "€", "\U0001f600", "cdef", "g"}},
		{0, 16, 5, []string{"abé", "€", "\U0001f600c", "defg"}},
		{0, 16, 7, []string{"abé€", "\U0001f600cde", "fg"}},
		{0, 16, 15, []string{"abé€\U0001f600cdef", "g"}},
		{0, 16, 16, []string{s}},
		{0, 16, math.MaxInt, []string{s}},
		{2, 7, 4, []string{"é", "€"}},
		{2, 7, 5, []string{"é€"}},
		{16, 16, 4, nil},
		{0, 0, 4, nil},
	} {
		got, e := Pieces(ropeOf(t, s), c.from, c.to, c.most)
		if e != api.OK || !slices.Equal(got, c.want) {
			t.Errorf("P6.2: %v: %q, %v", c, got, e)
		}
	}
}

// TestPiecesOfShortTexts: all places and all bounds, wrong ones too.
func TestPiecesOfShortTexts(t *testing.T) {
	for _, s := range shortTexts {
		r := ropeOf(t, s)
		for from := -1; from <= len(s)+1; from++ {
			for to := -1; to <= len(s)+1; to++ {
				for _, most := range bounds {
					checkPieces(t, r, s, from, to, most)
				}
			}
		}
		for _, at := range far {
			for _, most := range []int{math.MinInt, 3, 4, math.MaxInt} {
				checkPieces(t, r, s, at, 0, most)
				checkPieces(t, r, s, 0, at, most)
				checkPieces(t, r, s, at, at, most)
			}
		}
	}
}

// TestFirstError: ErrRange ahead of ErrSplit, that ahead of ErrForm.
func TestFirstError(t *testing.T) {
	r := ropeOf(t, "éé")
	for _, c := range []struct {
		from, to, most int
		want           api.Errno
	}{
		{1, 5, 3, api.ErrRange}, {-1, 3, 0, api.ErrRange}, {3, 1, 4, api.ErrRange},
		{1, 4, 3, api.ErrSplit}, {0, 3, -1, api.ErrSplit}, {3, 3, 4, api.ErrSplit},
		{0, 4, 3, api.ErrForm}, {4, 4, math.MinInt, api.ErrForm},
	} {
		if l, e := Pieces(r, c.from, c.to, c.most); len(l) != 0 || e != c.want {
			t.Errorf("P6.2: %v: %q, %v", c, l, e)
		}
	}
}

func TestPiecesOfEditedTexts(t *testing.T) {
	rnd := rand.New(rand.NewSource(3))
	for range 20 {
		r, s := edited(t, rnd)
		for _, most := range bounds {
			checkPieces(t, r, s, 0, len(s), most)
			for range 10 {
				from := rnd.Intn(len(s) + 1)
				checkPieces(t, r, s, from, from+rnd.Intn(len(s)+1-from), most)
			}
		}
	}
}

func TestPiecesAtTheLimit(t *testing.T) {
	for _, s := range longTexts() {
		r := ropeOf(t, s)
		for _, most := range []int{3, 4, 5, 64, api.MaxText - 1, api.MaxText, api.MaxText + 1, math.MaxInt} {
			checkPieces(t, r, s, 0, len(s), most)
			checkPieces(t, r, s, 0, len(s)+1, most)
			checkPieces(t, r, s, len(s), len(s), most)
		}
	}
}

// TestPiecesApart: what is done with one answer isn't to be seen in another.
func TestPiecesApart(t *testing.T) {
	s := strings.Repeat("abcd", 9)
	r := ropeOf(t, s)
	a, _ := Pieces(r, 0, len(s), 4)
	b, _ := Pieces(r, 0, len(s), 4)
	for i := range a[:cap(a)] {
		a[:cap(a)][i] = "x"
	}
	if c, _ := Pieces(r, 0, len(s), 4); strings.Join(b, "") != s || !slices.Equal(b, c) {
		t.Errorf("P6.2: %q, %q", b, c)
	}
	if r.String() != s {
		t.Errorf("P6.2: the rope is %q", r.String())
	}
}

// TestGoroutinesEnd: none goes on when Pieces has answered, with an error too.
func TestGoroutinesEnd(t *testing.T) {
	r := ropeOf(t, strings.Repeat("é", 40))
	before := runtime.NumGoroutine()
	for i := range 300 {
		Pieces(r, 0, 80, 4)
		Pieces(r, 0, 80, 3)
		Pieces(r, 0, i+1, 4)
		Pieces(r, 0, 81, 4)
	}
	// One that has told that it is done may not be off the list at once.
	for range 100 {
		if runtime.NumGoroutine() <= before {
			return
		}
		time.Sleep(10 * time.Millisecond)
	}
	t.Errorf("P6.2: %d goroutines, %d before", runtime.NumGoroutine(), before)
}

// TestManyCallers: calls at the same time don't mix their pieces.
func TestManyCallers(t *testing.T) {
	r := ropeOf(t, strings.Repeat("é€\U0001f600", 100))
	s := r.String()
	done := make(chan bool)
	for most := 4; most < 20; most++ {
		go func() {
			ok := true
			for range 50 {
				l, e := Pieces(r, 0, len(s), most)
				ok = ok && e == api.OK && strings.Join(l, "") == s
			}
			done <- ok
		}()
	}
	for most := 4; most < 20; most++ {
		if !<-done {
			t.Error("P6.3: not the text")
		}
	}
}

// checkFind fails unless Find tells what it is to tell of s, r's text.
func checkFind(t *testing.T, r *rope.Rope, s, what string, from int) {
	t.Helper()
	want := -1
	for at := max(from, 0); what != "" && at < len(s); at++ {
		if strings.HasPrefix(s[at:], what) {
			want = at
			break
		}
	}
	if got := Find(r, what, from); got != want {
		t.Fatalf("P6.2: Find of %q in %q from %d: %d, want %d", what, s, from, got, want)
	}
}

// TestFindAll: all parts of short texts, within code points too, from all places.
func TestFindAll(t *testing.T) {
	for _, s := range append(slices.Clone(shortTexts), "aaaaabaaab", "abcabcé", "ééè") {
		r := ropeOf(t, s)
		for _, from := range places(len(s)) {
			for begin := range len(s) + 1 {
				for end := begin; end <= len(s); end++ {
					checkFind(t, r, s, s[begin:end], from)
				}
			}
			for _, what := range []string{"", "b", "\n", "\xff", "\ufffd", s + "x", "x" + s, s + s} {
				checkFind(t, r, s, what, from)
			}
		}
	}
}

// TestFindAcrossPieces: wherever a rope's pieces lie.
func TestFindAcrossPieces(t *testing.T) {
	rnd := rand.New(rand.NewSource(4))
	for range 20 {
		r, s := edited(t, rnd)
		for range 200 {
			begin := rnd.Intn(len(s) + 1)
			end := min(begin+rnd.Intn(150), len(s))
			checkFind(t, r, s, s[begin:end], 0)
			checkFind(t, r, s, s[begin:end], begin)
			checkFind(t, r, s, s[begin:end], begin+1)
			checkFind(t, r, s, s[begin:end], rnd.Intn(len(s)+1))
		}
	}
}

func TestFindAtTheLimit(t *testing.T) {
	for _, s := range longTexts() {
		r := ropeOf(t, s)
		for _, from := range append(slices.Clone(far), 0, 1, len(s)-1, len(s)) {
			for _, what := range []string{s, s + "x", s[1:], s[len(s)-1:], s[len(s)/2:], "zz"} {
				checkFind(t, r, s, what, from)
			}
		}
	}
}

// TestUnclean: what is looked for isn't cleaned.
func TestUnclean(t *testing.T) {
	r := ropeOf(t, "a\xffb")
	if got := Find(r, "\xff", 0); got != -1 {
		t.Errorf("P6.2: %d", got)
	}
	if got := Find(r, "\xbf\xbd", 0); got != 2 {
		t.Errorf("P6.2: %d", got)
	}
}

func TestNil(t *testing.T) {
	checkLines(t, nil, "")
	checkAt(t, nil, "", places(0))
	for _, most := range bounds {
		for from := -1; from < 2; from++ {
			for to := -1; to < 2; to++ {
				checkPieces(t, nil, "", from, to, most)
			}
		}
	}
	for _, from := range places(0) {
		checkFind(t, nil, "", "", from)
		checkFind(t, nil, "", "a", from)
	}
}
