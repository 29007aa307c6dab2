package interval

import (
	"math"
	"math/rand"
	"slices"
	"strings"
	"testing"

	"palinode/api"
)

func of(from, to int) api.Interval { return api.Interval{From: from, To: to} }

// someOf are all intervals with these ends, those with From above To too.
func someOf(ends ...int) []api.Interval {
	var l []api.Interval
	for _, from := range ends {
		for _, to := range ends {
			l = append(l, of(from, to))
		}
	}
	return l
}

// borders are ends at which what is reckoned, not compared, would wrap round.
var borders = []int{math.MinInt, math.MinInt + 1, -1, 0, 1, math.MaxInt - 1, math.MaxInt}

func TestIs(t *testing.T) {
	for _, c := range []struct {
		i    api.Interval
		n    int
		want bool
	}{
		{of(0, 0), 0, true},
		{of(0, 3), 3, true},
		{of(3, 3), 3, true},
		{of(1, 2), 3, true},
		{of(0, 3), math.MaxInt, true},
		{of(math.MaxInt, math.MaxInt), math.MaxInt, true},
		{of(0, 4), 3, false},
		{of(4, 4), 3, false},
		{of(2, 1), 3, false},
		{of(-1, 2), 3, false},
		{of(-1, -1), 3, false},
		{of(0, 0), -1, false},
		{of(-1, -1), -1, false},
		{of(-2, -1), -1, false},
		{of(0, math.MinInt), 3, false},
		{of(math.MaxInt, math.MinInt), math.MaxInt, false},
		{of(math.MinInt, math.MaxInt), math.MaxInt, false},
	} {
		if got := Is(c.i, c.n); got != c.want {
			t.Errorf("P10.1: Is(%v, %d): %v", c.i, c.n, got)
		}
	}
}

// Each answer is the same whichever is named first.
func TestTwo(t *testing.T) {
	const least, most = math.MinInt, math.MaxInt
	for _, c := range []struct {
		a, b, meet api.Interval
		touch      bool
		join       api.Interval
	}{
		// One in the other, across one another, side by side, apart.
		{of(1, 9), of(2, 3), of(2, 3), true, of(1, 9)},
		{of(0, 3), of(2, 5), of(2, 3), true, of(0, 5)},
		{of(0, 3), of(3, 5), of(3, 3), true, of(0, 5)},
		{of(0, 3), of(4, 5), of(4, 4), false, of(0, 5)},
		{of(-9, -4), of(-6, 2), of(-6, -4), true, of(-9, 2)},
		// Of no places.
		{of(2, 2), of(2, 2), of(2, 2), true, of(2, 2)},
		{of(2, 2), of(3, 3), of(3, 3), false, of(2, 3)},
		{of(2, 2), of(0, 5), of(2, 2), true, of(0, 5)},
		{of(2, 2), of(2, 5), of(2, 2), true, of(2, 5)},
		{of(2, 2), of(0, 2), of(2, 2), true, of(0, 2)},
		// That end ahead of where they begin.
		{of(5, 2), of(0, 9), of(5, 5), true, of(0, 9)},
		{of(5, 2), of(0, 3), of(5, 5), false, of(0, 3)},
		{of(5, 2), of(3, 9), of(5, 5), false, of(3, 9)},
		{of(5, 2), of(5, 2), of(5, 5), false, of(5, 2)},
		{of(5, 2), of(4, 1), of(5, 5), false, of(4, 2)},
		// As far as they go.
		{of(least, most), of(0, 1), of(0, 1), true, of(least, most)},
		{of(least, least), of(most, most), of(most, most), false, of(least, most)},
		{of(least, 0), of(0, most), of(0, 0), true, of(least, most)},
		{of(most, least), of(0, 1), of(most, most), false, of(0, 1)},
		{of(most, least), of(least, most), of(most, most), true, of(least, most)},
	} {
		for _, x := range [][2]api.Interval{{c.a, c.b}, {c.b, c.a}} {
			if got := Meet(x[0], x[1]); got != c.meet {
				t.Errorf("P10.1: Meet(%v, %v): %v, want %v", x[0], x[1], got, c.meet)
			}
			if got := Touch(x[0], x[1]); got != c.touch {
				t.Errorf("P10.1: Touch(%v, %v): %v", x[0], x[1], got)
			}
			if got := Join(x[0], x[1]); got != c.join {
				t.Errorf("P10.1: Join(%v, %v): %v, want %v", x[0], x[1], got, c.join)
			}
		}
	}
}

// checkMeet holds Meet against the places that are in both.
func checkMeet(t *testing.T, a, b api.Interval) {
	t.Helper()
	got := Meet(a, b)
	for at := -5; at <= 5; at++ {
		inBoth := a.From <= at && at < a.To && b.From <= at && at < b.To
		if in := got.From <= at && at < got.To; in != inBoth {
			t.Fatalf("P10.1: Meet(%v, %v): %v, at %d", a, b, got, at)
		}
	}
	if got.From > got.To || got.From != a.From && got.From != b.From || got.From < a.From || got.From < b.From {
		t.Fatalf("P10.1: Meet(%v, %v): %v", a, b, got)
	}
}

// checkTouch holds Touch against the gaps, between places, that both have.
func checkTouch(t *testing.T, a, b api.Interval) {
	t.Helper()
	want := false
	for gap := -5; gap <= 5; gap++ {
		want = want || a.From <= gap && gap <= a.To && b.From <= gap && gap <= b.To
	}
	if got := Touch(a, b); got != want {
		t.Fatalf("P10.1: Touch(%v, %v): %v", a, b, got)
	}
}

// checkJoin fails unless both are held, and no less would hold them.
func checkJoin(t *testing.T, a, b api.Interval) {
	t.Helper()
	got := Join(a, b)
	holds := got.From <= a.From && got.From <= b.From && got.To >= a.To && got.To >= b.To
	least := (got.From == a.From || got.From == b.From) && (got.To == a.To || got.To == b.To)
	if !holds || !least {
		t.Fatalf("P10.1: Join(%v, %v): %v", a, b, got)
	}
}

// All short intervals, two by two.
func TestAllTwo(t *testing.T) {
	all := someOf(-3, -2, -1, 0, 1, 2, 3)
	for _, a := range all {
		for _, b := range all {
			checkMeet(t, a, b)
			checkJoin(t, a, b)
			if a.From <= a.To && b.From <= b.To {
				checkTouch(t, a, b)
			}
		}
	}
}

func TestShift(t *testing.T) {
	for _, c := range []struct {
		i    api.Interval
		by   int
		want api.Interval
	}{
		{of(3, 5), 4, of(7, 9)},
		{of(3, 5), -4, of(-1, 1)},
		{of(3, 5), 0, of(3, 5)},
		{of(5, 3), 1, of(6, 4)},
		{of(0, math.MaxInt), 1, of(1, math.MinInt)},
		{of(math.MinInt, 0), -1, of(math.MaxInt, -1)},
		{of(math.MaxInt, math.MinInt), math.MaxInt, of(-2, -1)},
		{of(math.MinInt, math.MaxInt), math.MinInt, of(0, -1)},
	} {
		if got := Shift(c.i, c.by); got != c.want {
			t.Errorf("P10.1: Shift(%v, %d): %v, want %v", c.i, c.by, got, c.want)
		}
	}
	for _, i := range someOf(borders...) {
		for _, by := range borders {
			if got := Shift(Shift(i, by), -by); got != i {
				t.Errorf("P10.1: Shift of %v by %d, and back: %v", i, by, got)
			}
		}
	}
}

// wantMerge marks, from -ends to ends, the places, and the gaps between them,
// that one of l has, and tells what hangs together.
func wantMerge(l []api.Interval, ends int) []api.Interval {
	marked := make([]bool, 4*ends+2)
	for _, i := range l {
		for k := 2 * (i.From + ends); k <= 2*(i.To+ends); k++ {
			marked[k] = true
		}
	}
	var want []api.Interval
	for k := range marked {
		if marked[k] && (k == 0 || !marked[k-1]) {
			want = append(want, of(k/2-ends, 0))
		}
		if marked[k] && !marked[k+1] {
			want[len(want)-1].To = k/2 - ends
		}
	}
	return want
}

// checkApart fails unless what is merged is in order and apart, and is left
// as it is when it is merged again.
func checkApart(t *testing.T, merged []api.Interval) {
	t.Helper()
	for k, i := range merged {
		if i.From > i.To {
			t.Fatalf("P10.2: %v in %v", i, merged)
		}
		if k > 0 && merged[k-1].To >= i.From {
			t.Fatalf("P10.3: %v isn't behind %v in %v", i, merged[k-1], merged)
		}
		for _, other := range merged[:k] {
			if Touch(i, other) {
				t.Fatalf("P10.3: %v and %v touch in %v", other, i, merged)
			}
		}
	}
	if again := Merge(merged); !slices.Equal(again, merged) {
		t.Fatalf("P10.3: %v merged again: %v", merged, again)
	}
}

// checkMerge holds Merge of l, whose ends are from -ends to ends, against what
// is marked by hand.
func checkMerge(t *testing.T, l []api.Interval, ends int) {
	t.Helper()
	given := slices.Clone(l)
	got := Merge(l)
	if want := wantMerge(l, ends); !slices.Equal(got, want) {
		t.Fatalf("P10.2: Merge(%v): %v, want %v", l, got, want)
	}
	checkApart(t, got)
	if !slices.Equal(l, given) {
		t.Fatalf("Merge has changed %v to %v", given, l)
	}
}

// All lists of up to three short intervals, in all orders.
func TestMergeShort(t *testing.T) {
	all := someOf(-2, -1, 0, 1, 2)
	checkMerge(t, nil, 2)
	for _, a := range all {
		checkMerge(t, []api.Interval{a}, 2)
		for _, b := range all {
			checkMerge(t, []api.Interval{a, b}, 2)
			for _, c := range all {
				checkMerge(t, []api.Interval{a, b, c}, 2)
			}
		}
	}
}

func TestMergeLong(t *testing.T) {
	r := rand.New(rand.NewSource(10))
	for range 2000 {
		const ends = 60
		var l []api.Interval
		for range r.Intn(40) {
			from := r.Intn(2*ends) - ends
			l = append(l, of(from, min(max(from-2, -ends)+r.Intn(8), ends)))
		}
		checkMerge(t, l, ends)
	}
}

func TestMergeRows(t *testing.T) {
	const least, most = math.MinInt, math.MaxInt
	for _, c := range []struct{ l, want []api.Interval }{
		{[]api.Interval{}, nil},
		{[]api.Interval{of(5, 4), of(0, -1), of(most, least)}, nil},
		{[]api.Interval{of(1, 1)}, []api.Interval{of(1, 1)}},
		{[]api.Interval{of(1, 1), of(1, 1)}, []api.Interval{of(1, 1)}},
		{[]api.Interval{of(1, 1), of(2, 2)}, []api.Interval{of(1, 1), of(2, 2)}},
		{[]api.Interval{of(4, 6), of(0, 1), of(2, 3)}, []api.Interval{of(0, 1), of(2, 3), of(4, 6)}},
		// One that is left out doesn't join what lies on both its sides.
		{[]api.Interval{of(0, 2), of(4, 6), of(5, 1)}, []api.Interval{of(0, 2), of(4, 6)}},
		// The longest isn't the last.
		{[]api.Interval{of(0, 9), of(1, 2), of(4, 5), of(9, 10), of(11, 12)}, []api.Interval{of(0, 10), of(11, 12)}},
		// One touches what was apart.
		{[]api.Interval{of(0, 1), of(3, 4), of(6, 7), of(1, 6)}, []api.Interval{of(0, 7)}},
		{[]api.Interval{of(0, 2), of(0, 5), of(0, 0)}, []api.Interval{of(0, 5)}},
		// As far as they go.
		{[]api.Interval{of(most, most), of(0, 1), of(least, least)}, []api.Interval{of(least, least), of(0, 1), of(most, most)}},
		{[]api.Interval{of(2, most), of(least, 0)}, []api.Interval{of(least, 0), of(2, most)}},
		{[]api.Interval{of(1, most), of(least, 1)}, []api.Interval{of(least, most)}},
		{[]api.Interval{of(most-1, most), of(least, least+1), of(0, most-2)}, []api.Interval{of(least, least+1), of(0, most-2), of(most-1, most)}},
	} {
		got := Merge(c.l)
		if !slices.Equal(got, c.want) {
			t.Errorf("P10.2: Merge(%v): %v, want %v", c.l, got, c.want)
		}
		checkApart(t, got)
	}
}

// Many intervals come to an end, whatever their order.
func TestMergeMany(t *testing.T) {
	const n = 200000
	var rising, chain, back, want []api.Interval
	for k := range n {
		rising = append(rising, of(3*k, 3*k+1))
		chain = append(chain, of(3*k, 3*k+3))
		back = append(back, of(k+1, k))
	}
	want = slices.Clone(rising)
	falling := slices.Clone(rising)
	slices.Reverse(falling)
	mixed := slices.Clone(rising)
	rand.New(rand.NewSource(3)).Shuffle(n, func(a, b int) { mixed[a], mixed[b] = mixed[b], mixed[a] })
	for _, l := range [][]api.Interval{rising, falling, mixed} {
		if !slices.Equal(Merge(l), want) {
			t.Error("P10.2: Merge of many apart")
		}
	}
	if got := Merge(chain); !slices.Equal(got, []api.Interval{of(0, 3*n)}) {
		t.Errorf("P10.2: Merge of many that touch: %d", len(got))
	}
	if got := Merge(back); len(got) != 0 {
		t.Errorf("P10.2: Merge of many that are left out: %d", len(got))
	}
}

// What is handed in, the room behind it too, stays; what is answered is
// nobody else's, its spare room too.
func TestMemory(t *testing.T) {
	room := []api.Interval{of(4, 5), of(2, 1), of(0, 1), of(1, 2), of(9, 9), of(8, 8)}
	given := slices.Clone(room)
	want := []api.Interval{of(0, 2), of(4, 5)}
	a, b := Merge(room[:4]), Merge(room[:4])
	if !slices.Equal(room, given) {
		t.Errorf("Merge has changed %v to %v", given, room)
	}
	a = a[:cap(a)]
	for k := range a {
		a[k] = of(-9, -9)
	}
	if !slices.Equal(b, want) || !slices.Equal(Merge(room[:4]), want) || !slices.Equal(room, given) {
		t.Errorf("an answer shares memory: %v, %v", b, room)
	}
	for k := range room {
		room[k] = of(-7, -7)
	}
	if !slices.Equal(b, want) {
		t.Errorf("what was handed in is kept: %v", b)
	}
	one := []api.Interval{of(0, 1)}
	Merge(one)[0].From = -9
	if one[0] != of(0, 1) {
		t.Errorf("an answer is what was handed in: %v", one)
	}
}

// What Merge joins hides that those of the same From are sorted by To.
func TestSortBy(t *testing.T) {
	l := someOf(borders...)
	slices.Reverse(l)
	sortBy(l, fromOf, toOf)
	if !slices.Equal(l, someOf(borders...)) {
		t.Errorf("P10.2: by From, of the same by To: %v", l)
	}
	words := []string{"Bb", "b", "a", "B", "A"}
	sortBy(words, strings.ToLower)
	if want := []string{"a", "A", "b", "B", "Bb"}; !slices.Equal(words, want) {
		t.Errorf("words by one key: %v, want %v", words, want)
	}
	sortBy([]string(nil), strings.ToLower)
}

// The chapter's example.
func TestExample(t *testing.T) {
	if got := Merge([]api.Interval{of(0, 2), of(2, 3)}); !slices.Equal(got, []api.Interval{of(0, 3)}) {
		t.Errorf("P10.2: the example: %v", got)
	}
}
