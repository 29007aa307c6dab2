package utf_test

import (
	"math"
	"slices"
	"strings"
	"testing"
	"unicode/utf8"

	"palinode/api"
	"palinode/utf"
)

// borders: the bytes at which UTF-8's rules change, and their neighbours.
var borders = []byte{0x00, 0x41, 0x7F, 0x80, 0x8F, 0x90, 0x9F, 0xA0, 0xBF, 0xC0, 0xC1, 0xC2, 0xDF, 0xE0, 0xE1, 0xEC, 0xED, 0xEE, 0xEF, 0xF0, 0xF1, 0xF3, 0xF4, 0xF5, 0xFF}

// eachText hands over all texts of up to two bytes, and those of three and four
// bytes that are made of borders.
func eachText(do func(s string)) {
	do("")
	for a := range 256 {
		do(string([]byte{byte(a)}))
		for b := range 256 {
			do(string([]byte{byte(a), byte(b)}))
		}
	}
	for _, a := range borders {
		for _, b := range borders {
			for _, c := range borders {
				do(string([]byte{a, b, c}))
				for _, d := range borders {
					do(string([]byte{a, b, c, d}))
				}
			}
		}
	}
}

// eachPoint hands over the number and the text of every code point.
func eachPoint(do func(n int, s string)) {
	for n := 0; n <= 0x10FFFF; n++ {
		if n < 0xD800 || n > 0xDFFF {
			do(n, string(rune(n)))
		}
	}
}

// sizeByLibrary: what the library says of the code point at at.
func sizeByLibrary(s string, at int) int {
	r, size := utf8.DecodeRuneInString(s[at:])
	if r == utf8.RuneError && size <= 1 {
		return 0
	}
	return size
}

// mixed: texts with code points of all lengths and bytes that are none among them.
var mixed = []string{
	"abc\n", "a\u00e9\u20ac\U0001f600z", "\u0000\u007f\u0080\u07ff\u0800\uffff\U00010000\U0010ffff", "\ud7ff\ue000\ufffd", "e\u0301",
	"\xff", "a\xffb", "\u20ac\xe2\x82", "\xe2\x82\u20ac", "\xc3\u00e9\xa9", "\xf0\x9f\x98", "\xf0\x9f\x98\U0001f600\x80",
	"\xc0\xaf", "\xe0\x9f\xbf", "\xf0\x8f\xbf\xbf", "\xed\xa0\x80\xed\xb0\x80", "\xf4\x90\x80\x80", "\xf8\x88\x80\x80\x80", "\x80\x80",
}

var places = []int{math.MinInt, math.MinInt + 1, -5, -1}

// P1.1

func TestSizeOfEachPoint(t *testing.T) {
	eachPoint(func(n int, s string) {
		if got := utf.Size(s, 0); got != len(s) {
			t.Fatalf("P1.1: %x: %d, want %d", n, got, len(s))
		}
		if got := utf.Size("\xff"+s+"z", 1); got != len(s) {
			t.Fatalf("P1.1: %x within a text: %d, want %d", n, got, len(s))
		}
		for cut := 1; cut < len(s); cut++ {
			if utf.Size(s[:cut], 0) != 0 || utf.Size(s, cut) != 0 {
				t.Fatalf("P1.1: %x, cut at %d", n, cut)
			}
		}
	})
}

func TestSizeAsTheLibrary(t *testing.T) {
	eachText(func(s string) {
		for at := range len(s) {
			if got, want := utf.Size(s, at), sizeByLibrary(s, at); got != want {
				t.Fatalf("P1.1: %q at %d: %d, want %d", s, at, got, want)
			}
		}
	})
}

func TestSizeOfForbiddenBytes(t *testing.T) {
	for _, s := range []string{
		"\x80", "\xbf", "\xc0\x80", "\xc1\xbf", "\xe0\x80\x80", "\xe0\x9f\xbf", "\xf0\x80\x80\x80", "\xf0\x8f\xbf\xbf",
		"\xed\xa0\x80", "\xed\xbf\xbf", "\xf4\x90\x80\x80", "\xf5\x80\x80\x80", "\xfe", "\xff",
		"\xc2", "\xc2\x7f", "\xc2\xc0", "\xe1\x80\x7f", "\xe1\x80\xc0", "\xf1\x80\x80\x7f", "\xf1\x80\x80\xc0", "\xf1\x80\x7f\x80",
	} {
		if got := utf.Size(s, 0); got != 0 {
			t.Errorf("P1.1: %q: %d, want 0", s, got)
		}
	}
}

func TestSizeAtNoPlace(t *testing.T) {
	for _, s := range append([]string{""}, mixed...) {
		for _, at := range append([]int{len(s), len(s) + 1, math.MaxInt - 1, math.MaxInt}, places...) {
			if got := utf.Size(s, at); got != 0 {
				t.Errorf("P1.1: %q at %d: %d, want 0", s, at, got)
			}
		}
	}
}

func TestValid(t *testing.T) {
	eachText(func(s string) {
		if got := utf.Valid(s); got != utf8.ValidString(s) {
			t.Fatalf("P1.1: %q: %v", s, got)
		}
	})
	for _, s := range mixed {
		if got := utf.Valid(s); got != utf8.ValidString(s) {
			t.Errorf("P1.1: %q: %v", s, got)
		}
	}
}

func TestClean(t *testing.T) {
	for s, want := range map[string]string{
		"":                    "",
		"abc\u20ac":           "abc\u20ac",
		"\xff":                "\xef\xbf\xbd",
		"a\xffb":              "a\ufffdb",
		"\xff\xfe":            "\ufffd\ufffd",
		"\xe2\x82":            "\ufffd\ufffd",
		"\xe2\x82\u20ac":      "\ufffd\ufffd\u20ac",
		"\xe2\xc3\xa9":        "\ufffd\u00e9",
		"\u20ac\x82\xac":      "\u20ac\ufffd\ufffd",
		"\xed\xa0\x80":        "\ufffd\ufffd\ufffd",
		"\xf0\x9f\x98z":       "\ufffd\ufffd\ufffdz",
		"\xf4\x90\x80\x80":    "\ufffd\ufffd\ufffd\ufffd",
		"\xc0\x80\xc3\xa9":    "\ufffd\ufffd\u00e9",
		"\ufffd\xef\xbf":      "\ufffd\ufffd\ufffd",
		"\x80\U0001f600\xbfz": "\ufffd\U0001f600\ufffdz",
	} {
		if got := utf.Clean(s); got != want {
			t.Errorf("P1.1: %q: %q, want %q", s, got, want)
		}
	}
	eachText(func(s string) {
		if got, want := utf.Clean(s), string([]rune(s)); got != want {
			t.Fatalf("P1.1: %q: %q, want %q", s, got, want)
		}
	})
}

// P1.2

// edgesByLibrary: the edges of a valid s, rising; none of another one.
func edgesByLibrary(s string) []int {
	if !utf8.ValidString(s) {
		return nil
	}
	var edges []int
	for at := range s {
		edges = append(edges, at)
	}
	return append(edges, len(s))
}

func checkEdges(t *testing.T, s string) {
	t.Helper()
	edges := edgesByLibrary(s)
	for at := -2; at <= len(s)+2; at++ {
		i, is := slices.BinarySearch(edges, at)
		if got := utf.IsEdge(s, at); got != is {
			t.Fatalf("P1.2: edge of %q at %d: %v", s, at, got)
		}
		want := at
		if is && i > 0 {
			want = edges[i-1]
		}
		if got := utf.Back(s, at); got != want {
			t.Fatalf("P1.2: back in %q from %d: %d, want %d", s, at, got, want)
		}
	}
}

func TestEdges(t *testing.T) {
	eachText(func(s string) { checkEdges(t, s) })
	for _, s := range mixed {
		checkEdges(t, s)
		checkEdges(t, s+s)
	}
}

func TestEdgesAroundEachPoint(t *testing.T) {
	eachPoint(func(n int, s string) {
		text, end := "a"+s+"z", 1+len(s)
		if !utf.IsEdge(text, 1) || !utf.IsEdge(text, end) || utf.Back(text, end) != 1 || utf.Back(text, 1) != 0 {
			t.Fatalf("P1.2: around %x", n)
		}
		for at := 2; at < end; at++ {
			if utf.IsEdge(text, at) || utf.Back(text, at) != at {
				t.Fatalf("P1.2: within %x, at %d", n, at)
			}
		}
	})
}

func TestEdgesFarOff(t *testing.T) {
	for _, s := range append([]string{""}, mixed...) {
		for _, at := range append([]int{len(s) + 1, math.MaxInt - 1, math.MaxInt}, places...) {
			if utf.IsEdge(s, at) {
				t.Errorf("P1.2: %q has an edge at %d", s, at)
			}
			if got := utf.Back(s, at); got != at {
				t.Errorf("P1.2: back in %q from %d: %d", s, at, got)
			}
		}
	}
}

func TestEdgesOfWhatIsBrokenFarOff(t *testing.T) {
	for _, s := range []string{"\xff" + strings.Repeat("a", 50), strings.Repeat("a", 50) + "\xff", strings.Repeat("a", 25) + "\xc3" + strings.Repeat("a", 25)} {
		for at := 0; at <= len(s); at++ {
			if utf.IsEdge(s, at) || utf.Back(s, at) != at {
				t.Errorf("P1.2: %q at %d", s, at)
			}
		}
	}
}

func TestEdgesOfNothing(t *testing.T) {
	if !utf.IsEdge("", 0) || utf.Back("", 0) != 0 || utf.Back("a", 0) != 0 {
		t.Error("P1.2: the edge at 0")
	}
}

// pointsByLibrary: the runes of s as numbers.
func pointsByLibrary(s string) []int {
	var points []int
	for _, r := range s {
		points = append(points, int(r))
	}
	return points
}

func TestPoints(t *testing.T) {
	if got := utf.Points("a\u00e9\u20ac\U0001f600"); !slices.Equal(got, []int{0x61, 0xE9, 0x20AC, 0x1F600}) {
		t.Errorf("P1.2: %x", got)
	}
	if got := utf.Points("\xe2\x82z\xff"); !slices.Equal(got, []int{0xFFFD, 0xFFFD, 0x7A, 0xFFFD}) {
		t.Errorf("P1.2: %x", got)
	}
	if got := utf.Points(""); len(got) != 0 {
		t.Errorf("P1.2: %x", got)
	}
	check := func(s string) {
		if got, want := utf.Points(s), pointsByLibrary(s); !slices.Equal(got, want) {
			t.Fatalf("P1.2: %q: %x, want %x", s, got, want)
		}
	}
	eachText(check)
	for _, s := range mixed {
		check(s)
	}
}

func TestPointsAndMakeOfEachPoint(t *testing.T) {
	eachPoint(func(n int, s string) {
		if got := utf.Points(s); len(got) != 1 || got[0] != n {
			t.Fatalf("P1.2: %x: %x", n, got)
		}
		if got := utf.Make([]int{n}); got != s {
			t.Fatalf("P1.2: %x: %q, want %q", n, got, s)
		}
	})
}

func TestMakeOfWhatIsNone(t *testing.T) {
	none := []int{-1, -0xFFFD, 0xD800, 0xDBFF, 0xDC00, 0xDFFF, 0x110000, 1 << 31, 1<<32 + 'a', -1<<32 + 'a', math.MaxInt32, math.MinInt32, math.MaxInt, math.MinInt}
	for _, n := range none {
		if got := utf.Make([]int{'a', n, 'z'}); got != "a\ufffdz" {
			t.Errorf("P1.2: %x: %q", n, got)
		}
	}
	for n := 0xD800; n <= 0xDFFF; n++ {
		if got := utf.Make([]int{n}); got != "\ufffd" {
			t.Fatalf("P1.2: %x: %q", n, got)
		}
	}
}

func TestMake(t *testing.T) {
	if got := utf.Make([]int{0x61, 0xE9, 0x20AC, 0x1F600, 0}); got != "a\u00e9\u20ac\U0001f600\x00" {
		t.Errorf("P1.2: %q", got)
	}
	if utf.Make(nil) != "" || utf.Make([]int{}) != "" {
		t.Error("P1.2: nothing")
	}
}

func TestMakeLeavesItsListAlone(t *testing.T) {
	room := []int{'a', -1, 'b', 7, 8}
	if got := utf.Make(room[:3]); got != "a\ufffdb" {
		t.Errorf("P1.2: %q", got)
	}
	if !slices.Equal(room, []int{'a', -1, 'b', 7, 8}) {
		t.Errorf("P1.2: what was handed in is now %v", room)
	}
}

func TestPointsAreNewMemory(t *testing.T) {
	first := utf.Points("abc")
	second := utf.Points("abc")
	first = append(first[:1], 0, 0, 0)
	clear(first[:cap(first)])
	if third := utf.Points("abc"); !slices.Equal(second, third) || !slices.Equal(third, []int{'a', 'b', 'c'}) {
		t.Errorf("P1.2: %v, then %v", second, third)
	}
}

// P1.3

func TestCleanIsValidAndStays(t *testing.T) {
	check := func(s string) {
		clean := utf.Clean(s)
		if !utf.Valid(clean) {
			t.Fatalf("P1.3: %q isn't valid", clean)
		}
		if utf.Clean(clean) != clean {
			t.Fatalf("P1.3: %q doesn't stay", clean)
		}
		if utf.Valid(s) != (clean == s) {
			t.Fatalf("P1.3: %q cleaned is %q", s, clean)
		}
		if utf.Make(utf.Points(s)) != clean {
			t.Fatalf("P1.3: %q there and back", s)
		}
	}
	eachText(check)
	for _, s := range mixed {
		check(s)
		check(s + "\xff" + s)
	}
}

// This layer has no limits: what other layers refuse as too long is taken here.
func TestLongTexts(t *testing.T) {
	s := strings.Repeat("a\u20ac", api.MaxText/4+1)
	if len(s) <= api.MaxText || !utf.Valid(s) || utf.Clean(s) != s {
		t.Fatal("P1.1: a long text")
	}
	if !utf.IsEdge(s, len(s)) || utf.Back(s, len(s)) != len(s)-3 || utf.Make(utf.Points(s)) != s {
		t.Error("P1.2: a long text")
	}
	if utf.Valid(s+"\xe2") || utf.IsEdge(s+"\xe2", 0) || utf.Clean(s+"\xe2") != s+"\ufffd" {
		t.Error("P1.1: a long text with a broken end")
	}
}
