// Package utf: bytes as code points: see doc/01-utf.md.
package utf

import "strings"

// replacement stands for what is no code point.
const replacement rune = 0xFFFD

// restMin and restMax: within these lies each byte behind the second one.
const (
	restMin = 0x80
	restMax = 0xBF
)

// bounds of the code points from first to last: all of them have size bytes,
// of which the first two lie within these bounds (of one byte: the first).
type bounds struct {
	first, last        rune
	leadMin, leadMax   byte
	afterMin, afterMax byte
	size               int
}

// table leaves out what UTF-8 forbids: its rows are so narrow that longer forms
// than the fewest bytes, D800 to DFFF and all above 10FFFF are in none of them.
var table = []bounds{
	{0x0000, 0x007F, 0x00, 0x7F, 0x00, 0x00, 1},
	{0x0080, 0x07FF, 0xC2, 0xDF, 0x80, 0xBF, 2},
	{0x0800, 0x0FFF, 0xE0, 0xE0, 0xA0, 0xBF, 3},
	{0x1000, 0xCFFF, 0xE1, 0xEC, 0x80, 0xBF, 3},
	{0xD000, 0xD7FF, 0xED, 0xED, 0x80, 0x9F, 3},
	{0xE000, 0xFFFF, 0xEE, 0xEF, 0x80, 0xBF, 3},
	{0x10000, 0x3FFFF, 0xF0, 0xF0, 0x90, 0xBF, 4},
	{0x40000, 0xFFFFF, 0xF1, 0xF3, 0x80, 0xBF, 4},
	{0x100000, 0x10FFFF, 0xF4, 0xF4, 0x80, 0x8F, 4},
}

// Size tells how many bytes the code point at byte at of s has; 0, if there is none.
func Size(s string, at int) int {
	if at < 0 || at >= len(s) {
		return 0
	}
	for _, row := range table {
		if s[at] >= row.leadMin && s[at] <= row.leadMax {
			return sizeWithin(s[at:], row)
		}
	}
	return 0
}

// sizeWithin is row's size, if the bytes behind the first one of s fit it; else 0.
func sizeWithin(s string, row bounds) int {
	if len(s) < row.size {
		return 0
	}
	if row.size > 1 && (s[1] < row.afterMin || s[1] > row.afterMax) {
		return 0
	}
	for i := 2; i < row.size; i++ {
		if s[i] < restMin || s[i] > restMax {
			return 0
		}
	}
	return row.size
}

// Valid tells whether s is code points, one behind the other.
func Valid(s string) bool {
	for at := 0; at < len(s); {
		size := Size(s, at)
		if size == 0 {
			return false
		}
		at += size
	}
	return true
}

// Clean is s with FFFD in the stead of each byte that is of no code point.
func Clean(s string) string {
	var out strings.Builder
	for at := 0; at < len(s); {
		size := Size(s, at)
		if size == 0 {
			out.WriteRune(replacement)
			at++
			continue
		}
		out.WriteString(s[at : at+size])
		at += size
	}
	return out.String()
}

// IsEdge tells whether, in a Valid s, a code point begins at at, or s ends there.
func IsEdge(s string, at int) bool {
	return (at == len(s) || Size(s, at) > 0) && Valid(s)
}

// Back is the edge ahead of the edge at; at itself, if there is none or s isn't Valid.
func Back(s string, at int) int {
	if at <= 0 || !IsEdge(s, at) {
		return at
	}
	at--
	for Size(s, at) == 0 {
		at--
	}
	return at
}

// Points gives the numbers of the code points of s, cleaned.
func Points(s string) []int {
	var points []int
	for _, r := range Clean(s) {
		points = append(points, int(r))
	}
	return points
}

// Make gives the bytes of points, one behind the other.
func Make(points []int) string {
	var out strings.Builder
	for _, n := range points {
		out.WriteRune(toRune(n))
	}
	return out.String()
}

// toRune holds n against the bounds ahead of making it a rune: a rune has fewer
// bits than an int, and what is cut off could leave a code point that n isn't.
func toRune(n int) rune {
	for _, row := range table {
		if n >= int(row.first) && n <= int(row.last) {
			return rune(n)
		}
	}
	return replacement
}
