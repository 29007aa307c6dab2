package count_test

import (
	"math"
	"strings"
	"testing"
	"unicode/utf16"
	"unicode/utf8"

	"palinode/api"
	"palinode/count"
)

var kinds = []int{api.CBytes, api.CPoints, api.CUnits, api.CLines}

var noKinds = []int{math.MinInt, -2, -1, 4, 5, 1 << 32, math.MaxInt}

// points: of each size, at the borders of sizes and of pairs of units, and those
// that end a line elsewhere but not here.
var points = []string{"a", "\n", "\r", "\x00", "\x7f", "\u0080", "\u0085", "\u00e9", "\u07ff", "\u0800", "\u2028", "\u20ac", "\ud7ff", "\ue000", "\ufffd", "\uffff", "\U00010000", "\U0001f600", "\U0010ffff"}

// broken: texts that aren't Valid, and what their Clean has.
var broken = []struct {
	s    string
	want api.Counts
}{
	{"\xff", api.Counts{Bytes: 3, Points: 1, Units: 1}},
	{"a\xff\n", api.Counts{Bytes: 5, Points: 3, Units: 3, Lines: 1}},
	{"\n\xe2\x82", api.Counts{Bytes: 7, Points: 3, Units: 3, Lines: 1}},
	{"\xf0\x9f\x98\U0001f600", api.Counts{Bytes: 13, Points: 4, Units: 5}},
	{"\xed\xa0\x80\xed\xb0\x80", api.Counts{Bytes: 18, Points: 6, Units: 6}},
	{"\xc0\x8a\n\x80", api.Counts{Bytes: 10, Points: 4, Units: 4, Lines: 1}},
}

// eachText hands over the Valid texts of up to three of points, and some longer ones.
func eachText(do func(s string)) {
	do("")
	for _, a := range points {
		do(a)
		for _, b := range points {
			do(a + b)
			for _, c := range points {
				do(a + b + c)
			}
		}
	}
	do("one\ntwo\r\n\n\U0001f600\n\u20acnd")
	do(strings.Repeat("a\u00e9\u20ac\U0001f600\n", 20))
}

// byLibrary counts a Valid text by what the library has.
func byLibrary(s string) api.Counts {
	return api.Counts{
		Bytes:  len(s),
		Points: utf8.RuneCountInString(s),
		Units:  len(utf16.Encode([]rune(s))),
		Lines:  strings.Count(s, "\n"),
	}
}

// asList has a Counts by kind, so that the tests needn't ask Get.
func asList(c api.Counts) []int {
	return []int{c.Bytes, c.Points, c.Units, c.Lines}
}

func isEdge(s string, at int) bool {
	return at == len(s) || utf8.RuneStart(s[at])
}

// P2.1

func TestOf(t *testing.T) {
	eachText(func(s string) {
		if got, want := count.Of(s), byLibrary(s); got != want {
			t.Fatalf("P2.1: %q: %v, want %v", s, got, want)
		}
	})
}

func TestOfEachPoint(t *testing.T) {
	for n := rune(0); n <= utf8.MaxRune; n++ {
		if !utf8.ValidRune(n) {
			continue
		}
		want := api.Counts{Bytes: utf8.RuneLen(n), Points: 1, Units: utf16.RuneLen(n)}
		if n == '\n' {
			want.Lines = 1
		}
		if got := count.Of(string(n)); got != want {
			t.Fatalf("P2.1: %x: %v, want %v", n, got, want)
		}
	}
}

func TestOfWhatIsNotValid(t *testing.T) {
	for _, b := range broken {
		if got := count.Of(b.s); got != b.want {
			t.Errorf("P2.1: %q: %v, want %v", b.s, got, b.want)
		}
	}
}

func TestOfALongText(t *testing.T) {
	s := strings.Repeat("\U0001f600\n", 3*api.MaxText)
	n := 3 * api.MaxText
	if got, want := count.Of(s), (api.Counts{Bytes: 5 * n, Points: 2 * n, Units: 3 * n, Lines: n}); got != want {
		t.Errorf("P2.1: %v, want %v", got, want)
	}
}

func TestPlus(t *testing.T) {
	a, b := api.Counts{Bytes: 1, Points: 20, Units: 300, Lines: 4000}, api.Counts{Bytes: 5, Points: 60, Units: 700, Lines: 8000}
	want := api.Counts{Bytes: 6, Points: 80, Units: 1000, Lines: 12000}
	if got := count.Plus(a, b); got != want {
		t.Errorf("P2.1: %v, want %v", got, want)
	}
	if got := count.Plus(a, api.Counts{Bytes: -1, Points: -20, Units: -300, Lines: -4000}); got != (api.Counts{}) {
		t.Errorf("P2.1: below 0: %v", got)
	}
	if got := count.Plus(a, api.Counts{}); got != a {
		t.Errorf("P2.1: with nothing: %v", got)
	}
	eachText(func(s string) {
		for at := range len(s) + 1 {
			if !isEdge(s, at) {
				continue
			}
			if got, want := count.Plus(count.Of(s[:at]), count.Of(s[at:])), byLibrary(s); got != want {
				t.Fatalf("P2.1: %q, parted at %d: %v, want %v", s, at, got, want)
			}
		}
	})
}

func TestGet(t *testing.T) {
	for _, c := range []api.Counts{{}, {Bytes: 1, Points: 2, Units: 3, Lines: 4}, {Bytes: -9, Points: math.MaxInt, Units: math.MinInt, Lines: 7}} {
		for _, kind := range kinds {
			if got, want := count.Get(c, kind), asList(c)[kind]; got != want {
				t.Errorf("P2.1: %v, kind %d: %d, want %d", c, kind, got, want)
			}
		}
		for _, kind := range noKinds {
			if got := count.Get(c, kind); got != 0 {
				t.Errorf("P2.1: %v, kind %d: %d, want 0", c, kind, got)
			}
		}
	}
}

// P2.2

// wantTo looks at all edges of a Valid s for the first one ahead of which are n.
func wantTo(s string, kind, n int) (int, api.Errno) {
	if n < 0 || n > asList(byLibrary(s))[kind] {
		return 0, api.ErrRange
	}
	for at := range len(s) + 1 {
		if isEdge(s, at) && asList(byLibrary(s[:at]))[kind] == n {
			return at, api.OK
		}
	}
	if kind == api.CBytes {
		return 0, api.ErrSplit
	}
	return 0, api.ErrUnit
}

func wantFrom(s string, kind, at int) (int, api.Errno) {
	if at < 0 || at > len(s) {
		return 0, api.ErrRange
	}
	if !isEdge(s, at) {
		return 0, api.ErrSplit
	}
	return asList(byLibrary(s[:at]))[kind], api.OK
}

func TestTo(t *testing.T) {
	eachText(func(s string) {
		for _, kind := range kinds {
			numbers := []int{math.MinInt, math.MaxInt}
			for n := -1; n <= len(s)+1; n++ {
				numbers = append(numbers, n)
			}
			for _, n := range numbers {
				got, e := count.To(s, kind, n)
				if want, f := wantTo(s, kind, n); got != want || e != f {
					t.Fatalf("P2.2: To(%q, %d, %d): %d, %v, want %d, %v", s, kind, n, got, e, want, f)
				}
			}
		}
	})
}

func TestFrom(t *testing.T) {
	eachText(func(s string) {
		for _, kind := range kinds {
			places := []int{math.MinInt, math.MaxInt}
			for at := -1; at <= len(s)+1; at++ {
				places = append(places, at)
			}
			for _, at := range places {
				got, e := count.From(s, kind, at)
				if want, f := wantFrom(s, kind, at); got != want || e != f {
					t.Fatalf("P2.2: From(%q, %d, %d): %d, %v, want %d, %v", s, kind, at, got, e, want, f)
				}
			}
		}
	})
}

func TestPlacesByHand(t *testing.T) {
	s := "a\n\u20ac\U0001f600\n" // edges: 0, 1, 2, 5, 9, 10
	for _, c := range []struct {
		kind, n, at int
		e           api.Errno
	}{
		{api.CBytes, 5, 5, api.OK},
		{api.CBytes, 6, 0, api.ErrSplit},
		{api.CBytes, 10, 10, api.OK},
		{api.CBytes, 11, 0, api.ErrRange},
		{api.CPoints, 4, 9, api.OK},
		{api.CPoints, 6, 0, api.ErrRange},
		{api.CUnits, 3, 5, api.OK},
		{api.CUnits, 4, 0, api.ErrUnit},
		{api.CUnits, 5, 9, api.OK},
		{api.CUnits, 6, 10, api.OK},
		{api.CLines, 0, 0, api.OK},
		{api.CLines, 1, 2, api.OK},
		{api.CLines, 2, 10, api.OK},
		{api.CLines, 3, 0, api.ErrRange},
	} {
		if at, e := count.To(s, c.kind, c.n); at != c.at || e != c.e {
			t.Errorf("P2.2: To(%q, %d, %d): %d, %v, want %d, %v", s, c.kind, c.n, at, e, c.at, c.e)
		}
	}
	if n, e := count.From("a\nb", api.CLines, 2); n != 1 || e != api.OK {
		t.Errorf("P2.2: %d, %v", n, e)
	}
}

// TestFormComesFirst hands over places that are wrong, too.
func TestFormComesFirst(t *testing.T) {
	fail := func(s string, kind, n int) {
		if got, e := count.To(s, kind, n); got != 0 || e != api.ErrForm {
			t.Errorf("P2.2: To(%q, %d, %d): %d, %v", s, kind, n, got, e)
		}
		if got, e := count.From(s, kind, n); got != 0 || e != api.ErrForm {
			t.Errorf("P2.2: From(%q, %d, %d): %d, %v", s, kind, n, got, e)
		}
	}
	for _, n := range []int{math.MinInt, -1, 0, 1, 2, 9, math.MaxInt} {
		for _, kind := range noKinds {
			for _, s := range []string{"", "a", "\u20ac", "\xff"} {
				fail(s, kind, n)
			}
		}
		for _, b := range broken {
			for _, kind := range kinds {
				fail(b.s, kind, n)
			}
		}
	}
}

// P2.3

func TestThereAndBack(t *testing.T) {
	eachText(func(s string) {
		for _, kind := range kinds {
			for n := range asList(byLibrary(s))[kind] + 1 {
				at, e := count.To(s, kind, n)
				if e != api.OK {
					continue
				}
				if got, e := count.From(s, kind, at); got != n || e != api.OK {
					t.Fatalf("P2.3: %q, kind %d: %d is at %d, which is %d, %v", s, kind, n, at, got, e)
				}
			}
			for at := range len(s) + 1 {
				n, e := count.From(s, kind, at)
				if e != api.OK {
					continue
				}
				// A whole line has one count: back is where it begins.
				want := at
				if kind == api.CLines {
					want = strings.LastIndex(s[:at], "\n") + 1
				}
				if got, e := count.To(s, kind, n); got != want || e != api.OK {
					t.Fatalf("P2.3: %q, kind %d: %d ahead of %d, back is %d, %v", s, kind, n, at, got, e)
				}
			}
		}
	})
}
