package rope

import (
	"math"
	"math/rand"
	"slices"
	"strings"
	"testing"
	"unicode/utf8"
	"unsafe"

	"palinode/api"
)

// countOf counts a Valid s by the library.
func countOf(s string) api.Counts {
	c := api.Counts{Bytes: len(s), Points: utf8.RuneCountInString(s), Lines: strings.Count(s, "\n")}
	for _, r := range s {
		c.Units++
		if r >= 0x10000 {
			c.Units++
		}
	}
	return c
}

// isEdge tells of a Valid s, by the library.
func isEdge(s string, at int) bool {
	return at == len(s) || at >= 0 && at < len(s) && utf8.RuneStart(s[at])
}

// same fails unless x is a rope of s, in pieces as they are promised.
func same(t *testing.T, x *Rope, s string) {
	t.Helper()
	if x == nil || x.String() != s || x.Len() != len(s) {
		t.Fatalf("P4.1: %v, want %q", x, s)
	}
	if got := x.Counts(); got != countOf(s) {
		t.Fatalf("P4.2: %+v of %q", got, s)
	}
	l := x.Chunks()
	if strings.Join(l, "") != s {
		t.Fatalf("P4.2: %q of %q", l, s)
	}
	if len(l) > len(s)/16+2 {
		t.Fatalf("P4.2: %d pieces of %d bytes", len(l), len(s))
	}
	for _, c := range l {
		if c == "" || len(c) > 64 || !utf8.ValidString(c) {
			t.Fatalf("P4.2: piece %q", c)
		}
		if len(l) > 1 && len(c) < leastChunk {
			t.Fatalf("a short piece beside others: %q", c)
		}
	}
}

// none fails unless a call was refused with want.
func none(t *testing.T, x *Rope, e, want api.Errno) {
	t.Helper()
	if x != nil || e != want {
		t.Fatalf("P4.1: %v, %v, want nil, %v", x, e, want)
	}
}

// ropeOf is s's, which must not be refused.
func ropeOf(t *testing.T, s string) *Rope {
	t.Helper()
	x, e := New(s)
	if e != api.OK {
		t.Fatalf("P4.1: New of %d bytes: %v", len(s), e)
	}
	return x
}

// fault is what is wrong with bytes from to to - 1 of s.
func fault(s string, from, to int) api.Errno {
	if from < 0 || from > to || to > len(s) {
		return api.ErrRange
	}
	if !isEdge(s, from) || !isEdge(s, to) {
		return api.ErrSplit
	}
	return api.OK
}

// far are places that no text has.
var far = []int{math.MinInt, math.MinInt + 1, -64, -1, api.MaxText + 1, math.MaxInt - 1, math.MaxInt}

// units are code points of all sizes, and a line end.
var units = []string{"a", "\n", "é", "€", "\U0001f600"}

// text is a Valid one of n bytes or a few more.
func text(r *rand.Rand, n int) string {
	var b strings.Builder
	for b.Len() < n {
		b.WriteString(units[r.Intn(len(units))])
	}
	return b.String()
}

func TestNew(t *testing.T) {
	same(t, ropeOf(t, ""), "")
	same(t, ropeOf(t, "héllo"), "héllo")
	same(t, ropeOf(t, "a\xffb"), "a\ufffdb")
	same(t, ropeOf(t, "\xed\xa0\x80"), "\ufffd\ufffd\ufffd")
	for n := range 400 {
		for _, u := range units {
			same(t, ropeOf(t, strings.Repeat("x", n%5)+strings.Repeat(u, n)), strings.Repeat("x", n%5)+strings.Repeat(u, n))
		}
	}
}

func TestNewAtTheLimit(t *testing.T) {
	for _, u := range units {
		s := strings.Repeat(u, api.MaxText/len(u))
		s += strings.Repeat("x", api.MaxText-len(s))
		same(t, ropeOf(t, s), s)
		x, e := New(s + "x")
		none(t, x, e, api.ErrLong)
	}
	// Of what isn't Valid the clean text is too long, not what was handed in.
	bad := strings.Repeat("\xff", api.MaxText/3)
	same(t, ropeOf(t, bad), strings.Repeat("\ufffd", api.MaxText/3))
	x, e := New(bad + "\xff")
	none(t, x, e, api.ErrLong)
}

func TestSlice(t *testing.T) {
	x, e := ropeOf(t, "héllo").Slice(0, 2)
	none(t, x, e, api.ErrSplit)
	r := rand.New(rand.NewSource(41))
	for _, n := range []int{0, 1, 5, 63, 64, 65, 130, 200} {
		s := text(r, n)
		all := ropeOf(t, s)
		for from := -2; from <= len(s)+2; from++ {
			for to := -2; to <= len(s)+2; to++ {
				x, e := all.Slice(from, to)
				if want := fault(s, from, to); want != api.OK {
					none(t, x, e, want)
					continue
				}
				same(t, x, s[from:to])
			}
		}
	}
}

func TestFar(t *testing.T) {
	s := strings.Repeat("é", 100)
	x := ropeOf(t, s)
	for _, at := range far {
		for _, other := range append([]int{0, 1, 2, len(s)}, far...) {
			y, e := x.Slice(at, other)
			none(t, y, e, api.ErrRange)
			y, e = x.Slice(other, at)
			none(t, y, e, api.ErrRange)
			y, e = x.Replace(at, other, "x")
			none(t, y, e, api.ErrRange)
			y, e = x.Replace(other, at, "x")
			none(t, y, e, api.ErrRange)
		}
		if c, ok := x.Byte(at); c != 0 || ok {
			t.Errorf("P4.1: Byte(%d): %d, %v", at, c, ok)
		}
		if x.IsEdge(at) {
			t.Errorf("P4.1: IsEdge(%d)", at)
		}
	}
	same(t, x, s)
}

func TestReplace(t *testing.T) {
	r := rand.New(rand.NewSource(42))
	for _, n := range []int{0, 1, 20, 64, 65, 140} {
		s := text(r, n)
		all := ropeOf(t, s)
		for from := -1; from <= len(s)+1; from++ {
			for to := from - 1; to <= len(s)+1; to++ {
				put := []string{"", "x", "é\xff", text(r, 70)}[r.Intn(4)]
				x, e := all.Replace(from, to, put)
				if want := fault(s, from, to); want != api.OK {
					none(t, x, e, want)
					continue
				}
				same(t, x, s[:from]+strings.ReplaceAll(put, "\xff", "\ufffd")+s[to:])
			}
		}
		same(t, all, s)
	}
}

func TestReplaceAtTheLimit(t *testing.T) {
	s := "é" + strings.Repeat("y", api.MaxText-2)
	x := ropeOf(t, s)
	long := strings.Repeat("z", api.MaxText)
	same(t, fine(t)(x.Replace(0, len(s), long)), long)
	same(t, fine(t)(x.Replace(0, 2, "ab")), "ab"+s[2:])
	same(t, fine(t)(x.Replace(2, 5, "\xff")), "é\ufffd"+s[5:])
	y, e := x.Replace(0, len(s), long+"z")
	none(t, y, e, api.ErrLong)
	y, e = x.Replace(0, 2, "abc")
	none(t, y, e, api.ErrLong)
	y, e = x.Replace(2, 4, "\xff")
	none(t, y, e, api.ErrLong)
	// What is wrong with the place comes ahead of what is too long.
	y, e = x.Replace(0, 1, long)
	none(t, y, e, api.ErrSplit)
	y, e = x.Replace(0, len(s)+1, long)
	none(t, y, e, api.ErrRange)
	y, e = x.Replace(1, len(s)+1, "")
	none(t, y, e, api.ErrRange)
}

// fine gives on the rope of a call that must not be refused.
func fine(t *testing.T) func(*Rope, api.Errno) *Rope {
	return func(x *Rope, e api.Errno) *Rope {
		t.Helper()
		if x == nil || e != api.OK {
			t.Fatalf("P4.1: refused: %v", e)
		}
		return x
	}
}

func TestConcat(t *testing.T) {
	r := rand.New(rand.NewSource(43))
	sizes := []int{0, 1, 2, 15, 28, 29, 40, 63, 64, 65, 128, 300}
	for _, n := range sizes {
		for _, m := range sizes {
			a, b := text(r, n), text(r, m)
			x, y := ropeOf(t, a), ropeOf(t, b)
			same(t, fine(t)(x.Concat(y)), a+b)
			same(t, fine(t)(x.Concat(x)), a+a)
			same(t, x, a)
			same(t, y, b)
		}
		s := text(r, n)
		same(t, fine(t)(ropeOf(t, s).Concat(nil)), s)
	}
	half := strings.Repeat("h", api.MaxText/2)
	x := ropeOf(t, half)
	same(t, fine(t)(x.Concat(x)), half+half)
	y, e := x.Concat(ropeOf(t, half+"h"))
	none(t, y, e, api.ErrLong)
}

func TestByteAndIsEdge(t *testing.T) {
	r := rand.New(rand.NewSource(44))
	for _, n := range []int{0, 1, 64, 65, 500} {
		s := text(r, n)
		x := ropeOf(t, s)
		for at := -2; at <= len(s)+2; at++ {
			c, ok := x.Byte(at)
			is := at >= 0 && at < len(s)
			if ok != is || is && c != s[at] || !is && c != 0 {
				t.Fatalf("P4.1: Byte(%d) of %q: %d, %v", at, s, c, ok)
			}
			if x.IsEdge(at) != isEdge(s, at) {
				t.Fatalf("P4.1: IsEdge(%d) of %q: %v", at, s, x.IsEdge(at))
			}
		}
	}
}

func TestSame(t *testing.T) {
	long := strings.Repeat("abc", 100)
	texts := []string{"", "a", "b", "ab", "ba", long, long[:299] + "x", "x" + long[1:], long + "a"}
	for _, a := range texts {
		for _, b := range texts {
			if got := ropeOf(t, a).Same(ropeOf(t, b)); got != (a == b) {
				t.Errorf("P4.1: Same of %q and %q: %v", a, b, got)
			}
		}
		if got := ropeOf(t, a).Same(nil); got != (a == "") {
			t.Errorf("P4.1: Same of %q and nil: %v", a, got)
		}
	}
	// The same text, cut otherwise.
	x := ropeOf(t, "")
	for i := range long {
		x = fine(t)(x.Replace(i, i, long[i:i+1]))
	}
	if !x.Same(ropeOf(t, long)) || !ropeOf(t, long).Same(x) {
		t.Error("P4.1: Same hangs on how a text was made")
	}
}

// TestWhateverCalls plays all calls by turns: a rope holds, in all that they
// gave, as the plain text does, and those that it was made of stay.
func TestWhateverCalls(t *testing.T) {
	r := rand.New(rand.NewSource(45))
	for range 60 {
		s := text(r, r.Intn(600))
		x := ropeOf(t, s)
		for range 120 {
			from := edge(s, r.Intn(len(s)+1))
			to := edge(s, min(len(s), from+r.Intn(1+[]int{1, 8, 90, 900}[r.Intn(4)])))
			was, wasText := x, s
			switch r.Intn(5) {
			case 0, 1, 2:
				put := text(r, r.Intn([]int{1, 4, 40, 300}[r.Intn(4)]))
				x, s = fine(t)(x.Replace(from, to, put)), s[:from]+put+s[to:]
			case 3:
				part := fine(t)(x.Slice(from, to))
				same(t, part, s[from:to])
				if len(s) < 2000 {
					x, s = fine(t)(part.Concat(x)), s[from:to]+s
				}
			case 4:
				if len(s) > 500 {
					x, s = fine(t)(x.Slice(from, len(s))), s[from:]
				}
			}
			same(t, x, s)
			same(t, was, wasText)
		}
	}
}

// edge is the last one of a Valid s up to at.
func edge(s string, at int) int {
	for !isEdge(s, at) {
		at--
	}
	return at
}

// TestByteByByte builds ropes in the smallest steps, which would leave the most
// pieces.
func TestByteByByte(t *testing.T) {
	at := map[string]func(n int) int{
		"at the end":    func(n int) int { return n },
		"at the front":  func(n int) int { return 0 },
		"in the middle": func(n int) int { return n / 2 },
		"by turns":      func(n int) int { return n % 7 * n / 7 },
	}
	for name, place := range at {
		t.Run(name, func(t *testing.T) {
			x, s, one := ropeOf(t, ""), "", ropeOf(t, "q")
			for range 700 {
				p := place(len(s))
				x = fine(t)(x.Replace(p, p, "w"))
				s += "w"
				same(t, x, s)
			}
			for s != "" {
				p := place(len(s) - 1)
				x = fine(t)(x.Replace(p, p+1, ""))
				s = s[1:]
				same(t, x, s)
			}
			for range 300 {
				x, s = fine(t)(x.Concat(one)), s+"q"
				same(t, x, s)
			}
		})
	}
}

// TestManyShortPieces wears each piece down as far as it goes without being made
// anew with another one: no rope has more pieces for its bytes.
func TestManyShortPieces(t *testing.T) {
	x := ropeOf(t, strings.Repeat("p", 6400))
	at := 0
	for i := 0; i < len(x.Chunks()); i++ {
		for {
			worn := x.Chunks()
			worn[i] = worn[i][1:]
			y := fine(t)(x.Replace(at+1, at+2, ""))
			if !slices.Equal(y.Chunks(), worn) {
				break
			}
			x = y
		}
		at += len(x.Chunks()[i])
	}
	same(t, x, strings.Repeat("p", x.Len()))
}

func TestSmallPartsTogether(t *testing.T) {
	r := rand.New(rand.NewSource(46))
	s := text(r, 3000)
	all := ropeOf(t, s)
	x, have := ropeOf(t, ""), ""
	for len(have) < 3000 {
		from := edge(s, r.Intn(len(s)))
		to := edge(s, min(len(s), from+r.Intn(9)))
		x, have = fine(t)(x.Concat(fine(t)(all.Slice(from, to)))), have+s[from:to]
		same(t, x, have)
	}
}

func TestChunksAreNewMemory(t *testing.T) {
	x := ropeOf(t, strings.Repeat("m", 200))
	l := x.Chunks()
	room := l[:cap(l)]
	for i := range room {
		room[i] = "changed"
	}
	same(t, x, strings.Repeat("m", 200))
	if len(ropeOf(t, "").Chunks()) != 0 {
		t.Error("P4.2: a piece of an empty text")
	}
}

// shared tells how many pieces of b lie where pieces of a lie.
func shared(a, b *Rope) int {
	there := map[*byte]int{}
	for _, c := range a.Chunks() {
		there[unsafe.StringData(c)] = len(c)
	}
	n := 0
	for _, c := range b.Chunks() {
		if there[unsafe.StringData(c)] == len(c) {
			n++
		}
	}
	return n
}

// TestAChangeTouchesLittle: P4.3 names no number; here a change makes a few
// pieces anew and leaves all others where they lie.
func TestAChangeTouchesLittle(t *testing.T) {
	const anew = 4
	x := ropeOf(t, strings.Repeat("0123456789", 1500))
	for at := 0; at <= x.Len(); at += 37 {
		y := fine(t)(x.Replace(at, min(at+20, x.Len()), "more"))
		if whole := len(y.Chunks()); shared(x, y) < whole-anew {
			t.Fatalf("P4.3: Replace at %d: %d of %d pieces are the same", at, shared(x, y), whole)
		}
		y = fine(t)(x.Slice(at, x.Len()))
		if whole := len(y.Chunks()); shared(x, y) < whole-anew {
			t.Fatalf("P4.3: Slice from %d: %d of %d pieces are the same", at, shared(x, y), whole)
		}
		y = fine(t)(y.Concat(ropeOf(t, "end")))
		if whole := len(y.Chunks()); shared(x, y) < whole-2*anew {
			t.Fatalf("P4.3: Concat: %d of %d pieces are the same", shared(x, y), whole)
		}
	}
}

// TestALongTextCostsLittleMore: what a call does may grow as the ways down the
// tree do, not as the text does.
func TestALongTextCostsLittleMore(t *testing.T) {
	short, long := ropeOf(t, strings.Repeat("x", 800)), ropeOf(t, strings.Repeat("x", 16000))
	calls := map[string]func(x *Rope){
		"Len":     func(x *Rope) { x.Len() },
		"Counts":  func(x *Rope) { x.Counts() },
		"Byte":    func(x *Rope) { x.Byte(x.Len() / 2) },
		"IsEdge":  func(x *Rope) { x.IsEdge(x.Len() / 2) },
		"Replace": func(x *Rope) { x.Replace(x.Len()/2, x.Len()/2+5, "abc") },
		"Slice":   func(x *Rope) { x.Slice(x.Len()/3, x.Len()/2) },
		"Concat":  func(x *Rope) { x.Concat(short) },
	}
	for name, call := range calls {
		a := testing.AllocsPerRun(20, func() { call(short) })
		b := testing.AllocsPerRun(20, func() { call(long) })
		if b > 4*a+8 {
			t.Errorf("P4.3: %s: %v allocations of a text 20 times as long as one of %v", name, b, a)
		}
	}
}
