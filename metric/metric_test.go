package metric

import (
	"math"
	"math/rand"
	"slices"
	"strings"
	"testing"
	"time"
	"unicode/utf16"
	"unicode/utf8"

	"palinode/api"
	"palinode/count"
	"palinode/rope"
)

var kinds = []int{api.CBytes, api.CPoints, api.CUnits, api.CLines}

// noKinds are none.
var noKinds = []int{math.MinInt, -1, 4, 5, 9, math.MaxInt}

// far are numbers of which no text has so many.
var far = []int{math.MinInt, math.MinInt + 1, -64, -1, api.MaxText + 1, math.MaxInt - 1, math.MaxInt}

// units are code points of all sizes, and a line end.
var units = []string{"a", "\n", "é", "€", "\U0001f600"}

// ahead is how many of that kind stand in s, a Valid text, by the library.
func ahead(s string, kind int) int {
	switch kind {
	case api.CBytes:
		return len(s)
	case api.CPoints:
		return utf8.RuneCountInString(s)
	case api.CUnits:
		return len(utf16.Encode([]rune(s)))
	}
	return strings.Count(s, "\n")
}

// answer is what To or From tells.
type answer struct {
	n int
	e api.Errno
}

// table has what To and From are to tell of a text for each number from 0 to
// its count: told once, going over the edges.
type table struct {
	to, from map[int][]answer
}

func tableOf(s string) table {
	x := table{map[int][]answer{}, map[int][]answer{}}
	for _, kind := range kinds {
		within := api.ErrSplit
		if kind == api.CUnits {
			within = api.ErrUnit
		}
		to := slices.Repeat([]answer{{0, within}}, ahead(s, kind)+1)
		from := slices.Repeat([]answer{{0, api.ErrSplit}}, len(s)+1)
		n := 0
		to[0], from[0] = answer{}, answer{}
		for at, r := range s {
			end := at + utf8.RuneLen(r)
			if k := ahead(s[at:end], kind); k > 0 {
				n += k
				to[n] = answer{end, api.OK}
			}
			from[end] = answer{n, api.OK}
		}
		x.to[kind], x.from[kind] = to, from
	}
	return x
}

// at gives the answer of l at n: beyond it ErrRange.
func at(l []answer, n int) answer {
	if n < 0 || n >= len(l) {
		return answer{0, api.ErrRange}
	}
	return l[n]
}

// convert is From of to of To of from.
func (x table) convert(from, to, n int) answer {
	a := at(x.to[from], n)
	if a.e != api.OK {
		return a
	}
	return at(x.from[to], a.n)
}

// check fails unless all calls tell of r what they are to tell of s, which is
// its text, with each of numbers.
func check(t *testing.T, r *rope.Rope, s string, numbers []int) {
	t.Helper()
	x := tableOf(s)
	for _, kind := range kinds {
		if got := Whole(r, kind); got != ahead(s, kind) {
			t.Fatalf("P5.1: Whole of %q, kind %d: %d", s, kind, got)
		}
		for _, n := range numbers {
			k, e := To(r, kind, n)
			if got, want := (answer{k, e}), at(x.to[kind], n); got != want {
				t.Fatalf("P5.1: To of %q, kind %d, %d: %v, want %v", s, kind, n, got, want)
			}
			k, e = From(r, kind, n)
			if got, want := (answer{k, e}), at(x.from[kind], n); got != want {
				t.Fatalf("P5.1: From of %q, kind %d, %d: %v, want %v", s, kind, n, got, want)
			}
			for _, to := range kinds {
				k, e := Convert(r, kind, to, n)
				if got, want := (answer{k, e}), x.convert(kind, to, n); got != want {
					t.Fatalf("P5.1: Convert of %q, %d, %d, %d: %v, want %v", s, kind, to, n, got, want)
				}
			}
		}
	}
}

// all are the numbers that a text of n bytes may be asked with, and some beyond.
func all(n int) []int {
	l := slices.Clone(far)
	for i := range n + 3 {
		l = append(l, i)
	}
	return l
}

// some are numbers by the ends of a text of n bytes and here and there.
func some(r *rand.Rand, n int) []int {
	l := slices.Clone(far)
	for i := range 8 {
		l = append(l, i, n-i, n/2-i, n/3-i, n/4-i, n/4*3-i, r.Intn(n+1), r.Intn(n+1), r.Intn(n+1))
	}
	return l
}

// ropeOf is s's, which must not be refused.
func ropeOf(t *testing.T, s string) *rope.Rope {
	t.Helper()
	r, e := rope.New(s)
	if e != api.OK {
		t.Fatalf("New of %d bytes: %v", len(s), e)
	}
	return r
}

// someText is a Valid one of n bytes or a few more.
func someText(r *rand.Rand, n int) string {
	var b strings.Builder
	for b.Len() < n {
		b.WriteString(units[r.Intn(len(units))])
	}
	return b.String()
}

func TestExample(t *testing.T) {
	r := ropeOf(t, "first\nsecond\nthird")
	if n, e := Convert(r, api.CLines, api.CBytes, 1); n != 6 || e != api.OK {
		t.Errorf("P5.1: %d, %v", n, e)
	}
}

func TestShortTexts(t *testing.T) {
	for _, s := range []string{"", "a", "\n", "é", "€", "\U0001f600", "a\nb", "\n\n", "\r\n", "é\n€\U0001f600\n", "\x00", "\ufffd", "\U0010ffff", "\uffff\U00010000"} {
		check(t, ropeOf(t, s), s, all(len(s)))
	}
	check(t, ropeOf(t, "a\xff\n"), "a\ufffd\n", all(5))
}

// TestAllPlaces: at all places of texts that are one piece, two, or some.
func TestAllPlaces(t *testing.T) {
	r := rand.New(rand.NewSource(1))
	for _, n := range []int{60, 64, 65, 66, 128, 131, 300} {
		for range 3 {
			s := someText(r, n)
			check(t, ropeOf(t, s), s, all(len(s)))
		}
		for _, u := range units {
			for shift := range len(u) {
				s := strings.Repeat("x", shift) + strings.Repeat(u, n/len(u)) + "x"
				check(t, ropeOf(t, s), s, all(len(s)))
			}
		}
	}
}

// TestEditedTexts: however the pieces of a rope came to lie.
func TestEditedTexts(t *testing.T) {
	r := rand.New(rand.NewSource(2))
	for range 20 {
		s := someText(r, r.Intn(900))
		x := ropeOf(t, s)
		for range 30 {
			edges := []int{len(s)}
			for at := range s {
				edges = append(edges, at)
			}
			from, to := edges[r.Intn(len(edges))], edges[r.Intn(len(edges))]
			from, to = min(from, to), min(max(from, to), min(from, to)+100)
			for to < len(s) && !utf8.RuneStart(s[to]) {
				to++
			}
			in := someText(r, r.Intn(90))
			y, e := x.Replace(from, to, in)
			if e != api.OK {
				t.Fatal(e)
			}
			x, s = y, s[:from]+in+s[to:]
		}
		check(t, x, s, some(r, len(s)))
	}
}

func TestAtTheLimit(t *testing.T) {
	r := rand.New(rand.NewSource(3))
	for _, u := range append(slices.Clone(units), "a line\n", "é€\U0001f600\n") {
		s := strings.Repeat(u, api.MaxText/len(u))
		s += strings.Repeat("x", api.MaxText-len(s))
		check(t, ropeOf(t, s), s, some(r, len(s)))
	}
	// A line end at one end alone: most parts have none.
	for _, s := range []string{"\n" + strings.Repeat("x", api.MaxText-1), strings.Repeat("x", api.MaxText-1) + "\n"} {
		check(t, ropeOf(t, s), s, some(r, len(s)))
	}
}

func TestNil(t *testing.T) {
	check(t, nil, "", all(0))
}

// TestNoKind: ErrForm is ahead of all that may be wrong with the number.
func TestNoKind(t *testing.T) {
	for _, x := range []*rope.Rope{nil, ropeOf(t, ""), ropeOf(t, "é\n\U0001f600"), ropeOf(t, strings.Repeat("é\n\U0001f600", 100))} {
		for _, kind := range noKinds {
			if got := Whole(x, kind); got != 0 {
				t.Errorf("P5.1: Whole of kind %d: %d", kind, got)
			}
			for _, n := range all(8) {
				refused := func(k int, e api.Errno) {
					t.Helper()
					if k != 0 || e != api.ErrForm {
						t.Errorf("P5.1: kind %d, %d: %d, %v", kind, n, k, e)
					}
				}
				refused(To(x, kind, n))
				refused(From(x, kind, n))
				refused(Convert(x, kind, kind, n))
				for _, other := range kinds {
					refused(Convert(x, kind, other, n))
					refused(Convert(x, other, kind, n))
				}
			}
		}
	}
}

// TestThereAndBack: from a place to each count and back.
func TestThereAndBack(t *testing.T) {
	s := someText(rand.New(rand.NewSource(4)), 700)
	x := ropeOf(t, s)
	for place := range s {
		for _, kind := range []int{api.CBytes, api.CPoints, api.CUnits} {
			n, e := Convert(x, api.CBytes, kind, place)
			if e != api.OK {
				t.Fatalf("P5.1: %d: %v", place, e)
			}
			if back, e := Convert(x, kind, api.CBytes, n); back != place || e != api.OK {
				t.Fatalf("P5.1: from %d to %d of kind %d to %d, %v", place, n, kind, back, e)
			}
		}
	}
	for n := range ahead(s, api.CLines) + 1 {
		if back, e := Convert(x, api.CLines, api.CLines, n); back != n || e != api.OK {
			t.Fatalf("P5.1: %d lines: %d, %v", n, back, e)
		}
	}
}

// TestRopeStays: what is asked is not changed.
func TestRopeStays(t *testing.T) {
	s := someText(rand.New(rand.NewSource(5)), 700)
	x := ropeOf(t, s)
	chunks := x.Chunks()
	for _, n := range all(700) {
		To(x, api.CUnits, n)
		From(x, api.CLines, n)
		Convert(x, api.CPoints, api.CUnits, n)
	}
	if x.String() != s || !slices.Equal(x.Chunks(), chunks) {
		t.Error("P5.1: the rope is another one")
	}
}

// numbers is a part that counts how often it is asked.
type numbers struct {
	l     []int
	asked *int
}

type total int

func (a total) plus(b total) total { return a + b }

func (p numbers) sum() total {
	*p.asked++
	var s total
	for _, v := range p.l {
		s += total(v)
	}
	return s
}

func (p numbers) first() (numbers, bool) {
	*p.asked++
	return numbers{p.l[:len(p.l)/2], p.asked}, len(p.l) > 1
}

func (p numbers) behind(first numbers) numbers {
	*p.asked++
	return numbers{p.l[len(first.l):], p.asked}
}

func TestDown(t *testing.T) {
	for size := 1; size < 70; size++ {
		l := make([]int, size)
		whole := 0
		for i := range l {
			l[i] = i * 7 % 5
			whole += l[i]
		}
		for n := -1; n <= whole+1; n++ {
			asked := 0
			p, got := down(numbers{l, &asked}, func(s total) bool { return int(s) >= n })
			want, at := 0, 0
			for at < size-1 && want+l[at] < n {
				want += l[at]
				at++
			}
			if len(p.l) != 1 || &p.l[0] != &l[at] || int(got) != want {
				t.Fatalf("%d of %v: %v, %d, want that at %d, %d", n, l, p.l, got, at, want)
			}
		}
	}
}

// TestDownIsShort: so often as the row can be halved, no more.
func TestDownIsShort(t *testing.T) {
	l := slices.Repeat([]int{1}, 1<<12)
	for n := range len(l) + 2 {
		asked := 0
		down(numbers{l, &asked}, func(s total) bool { return int(s) >= n })
		if asked > 3*12+1 {
			t.Fatalf("P5.2: %d of %d: %d steps", n, len(l), asked)
		}
	}
}

// quickest is the least time of some calls of f, so that what else the machine
// does at the same time isn't counted.
func quickest(f func()) time.Duration {
	least := time.Duration(math.MaxInt64)
	for range 100 {
		begin := time.Now()
		f()
		least = min(least, time.Since(begin))
	}
	return least
}

// TestNotThroughAll: a call takes less than half the time of going through the
// text once, at its end too.
func TestNotThroughAll(t *testing.T) {
	s := strings.Repeat("line\n", api.MaxText/5)
	x := ropeOf(t, s)
	once := quickest(func() { count.Of(s) })
	for _, kind := range kinds {
		calls := []func(){
			func() { To(x, kind, Whole(x, kind)) },
			func() { From(x, kind, len(s)-1) },
			func() { Convert(x, kind, api.CUnits, Whole(x, kind)) },
			func() { Whole(x, kind) },
		}
		for i, call := range calls {
			if got := quickest(call); got > once/2 {
				t.Errorf("P5.2: call %d, kind %d: %v, through all of the text: %v", i, kind, got, once)
			}
		}
	}
}
