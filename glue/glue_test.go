package glue

import (
	"math"
	"math/big"
	"testing"

	"variorum/api"
)

const widest = 1073741823

// edges are numbers at and beside the bounds that matter, of a length, of the
// cases of badness, and of 32 and 64 bits.
var edges = []int64{
	math.MinInt64, math.MinInt64 + 1, -1 << 32, -widest - 1, -widest, -1,
	0, 1, 2, 3, 7, 100, 296, 297, 298, 1289, 1290, 1291, 5601, 65536, 1663495, 1663496, 1663497, 1663498,
	7230583, 7230584, 7230585, 7230586, 100000000, widest - 1, widest, widest + 1, widest + 2,
	math.MaxInt32, math.MaxInt32 + 1, 1 << 32, 1 << 60, math.MaxInt64 - 1, math.MaxInt64,
}

// badnessOf is P3.1 in exact numbers.
func badnessOf(t, s int64) int {
	if t < 0 || t > widest || s < 0 || s > widest {
		return -1
	}
	if t == 0 {
		return 0
	}
	if s == 0 {
		return 10000
	}
	r := big.NewInt(t)
	switch {
	case t <= 7230584:
		r.Mul(r, big.NewInt(297)).Quo(r, big.NewInt(s))
	case s >= 1663497:
		r.Quo(r, new(big.Int).Quo(big.NewInt(s), big.NewInt(297)))
	}
	if r.Cmp(big.NewInt(1290)) > 0 {
		return 10000
	}
	n := new(big.Int).Exp(r, big.NewInt(3), nil)
	n.Add(n, big.NewInt(131072)).Quo(n, big.NewInt(262144))
	return int(n.Int64())
}

// P3.1: ordinary ratios, and both sides of each bound, worked out by hand.
func TestBadness(t *testing.T) {
	cases := []struct {
		t, s int64
		n    int
	}{
		{1, 1, 100}, {1, 2, 12}, {2, 1, 800}, {3, 1, 2698}, {4, 1, 6396}, {5, 1, 10000},
		{widest, widest, 100}, {widest / 2, widest, 12},
		{0, 0, 0}, {0, 1, 0}, {0, widest, 0},
		{1, 0, 10000}, {widest, 0, 10000},
		{1, widest, 0}, {1, 298, 0}, {50, 297, 0}, {51, 297, 1}, {64, 297, 1}, {1, 3, 4},
		{1290, 297, 8189}, {1291, 297, 10000},
		{7230584, 1663496, 8189}, {7230585, 1663496, 10000},
		{7230584, 1663497, 8189}, {7230585, 1663497, 8189},
		{7230585, 7230584, 100}, {widest, 1, 10000}, {widest, 1663497, 10000}, {7230585, widest, 0},
		{-1, 1, -1}, {1, -1, -1}, {-1, 0, -1}, {0, -1, -1}, {-1, -1, -1},
		{widest + 1, 1, -1}, {1, widest + 1, -1}, {0, widest + 1, -1}, {widest + 1, 0, -1},
		{math.MinInt64, 1, -1}, {1, math.MinInt64, -1}, {0, math.MinInt64, -1},
		{math.MaxInt64, 1, -1}, {1, math.MaxInt64, -1}, {1 << 32, 1, -1}, {1, 1 << 32, -1},
	}
	for _, c := range cases {
		if n := Badness(c.t, c.s); n != c.n {
			t.Errorf("Badness(%d, %d) = %d, not %d", c.t, c.s, n, c.n)
		}
	}
}

func badnessHolds(t *testing.T, a, b int64) {
	if n, want := Badness(a, b), badnessOf(a, b); n != want {
		t.Errorf("Badness(%d, %d) = %d, not %d", a, b, n, want)
	}
}

// P3.1, P1, R1: all pairs of edges, all small ratios, and the neighbourhood of
// the bounds, held against exact numbers.
func TestBadnessOfEdges(t *testing.T) {
	for _, a := range edges {
		for _, b := range edges {
			badnessHolds(t, a, b)
		}
	}
	for a := int64(-2); a < 300; a++ {
		for b := int64(-2); b < 300; b++ {
			badnessHolds(t, a, b)
		}
	}
	for a := int64(7230584 - 60); a < 7230584+60; a++ {
		for b := int64(1663497 - 300); b < 1663497+300; b++ {
			badnessHolds(t, a, b)
		}
		badnessHolds(t, a, a)
		badnessHolds(t, a, 2*a)
	}
}

// P3.1: every ratio up to beyond the last one that is not infinite.
func TestBadnessOfRatios(t *testing.T) {
	last := 0
	for r := int64(0); r < 1400; r++ {
		n := Badness(r, 297)
		if n != badnessOf(r, 297) || n < last || (n == 10000) != (r > 1290) {
			t.Errorf("Badness(%d, 297) = %d behind %d", r, n, last)
		}
		last = n
	}
}

// plain is glue that is as wide as it is.
func plain(widths ...int64) []api.Glue {
	var l []api.Glue
	for _, w := range widths {
		l = append(l, api.Glue{Width: w})
	}
	return l
}

func give(width, stretch, shrink int64, order int) api.Glue {
	return api.Glue{Width: width, Stretch: stretch, Shrink: shrink, Order: order}
}

func repeated(g api.Glue, n int) []api.Glue {
	l := make([]api.Glue, n)
	for i := range l {
		l[i] = g
	}
	return l
}

// valid lists are at the edges of what may be.
var valid = []struct {
	l   []api.Glue
	sum api.Sum
}{
	{nil, api.Sum{}},
	{[]api.Glue{}, api.Sum{}},
	{plain(10), api.Sum{Width: 10}},
	{plain(10, -3, 0), api.Sum{Width: 7}},
	{plain(widest), api.Sum{Width: widest}},
	{plain(-widest), api.Sum{Width: -widest}},
	{plain(536870911, -536870912), api.Sum{Width: -1}},
	{plain(536870911, 536870912), api.Sum{Width: widest}},
	{[]api.Glue{{Stretch: widest, Order: 3}}, api.Sum{Stretch: [4]int64{3: widest}}},
	{[]api.Glue{{Shrink: widest}}, api.Sum{Shrink: widest}},
	{[]api.Glue{{Width: -widest, Stretch: widest, Shrink: widest, Order: 1}}, api.Sum{Width: -widest, Shrink: widest, Stretch: [4]int64{1: widest}}},
	{[]api.Glue{{Shrink: widest - 1}, {Shrink: 1}}, api.Sum{Shrink: widest}},
	{[]api.Glue{{Stretch: widest - 1}, {Stretch: 1, Order: 2}}, api.Sum{Stretch: [4]int64{0: widest - 1, 2: 1}}},
	{
		[]api.Glue{give(1, 2, 3, 0), give(10, 20, 30, 1), give(100, 200, 300, 2), give(1000, 2000, 3000, 3), give(10000, 20000, 30000, 0)},
		api.Sum{Width: 11111, Shrink: 33333, Stretch: [4]int64{20002, 20, 200, 2000}},
	},
	{repeated(api.Glue{Width: -1, Stretch: 2, Shrink: 3, Order: 3}, 2000), api.Sum{Width: -2000, Shrink: 6000, Stretch: [4]int64{3: 4000}}},
	{repeated(api.Glue{Width: 536870, Stretch: 536870, Shrink: 536870}, 2000), api.Sum{Width: 1073740000, Shrink: 1073740000, Stretch: [4]int64{1073740000}}},
}

// invalid lists have one fault each: an element, a sum, or their number.
var invalid = [][]api.Glue{
	plain(widest + 1), plain(-widest - 1), plain(math.MaxInt64), plain(math.MinInt64), plain(math.MinInt64, math.MinInt64),
	{{Stretch: -1}}, {{Shrink: -1}}, {{Stretch: widest + 1}}, {{Shrink: widest + 1}},
	{{Stretch: math.MinInt64}}, {{Shrink: math.MinInt64}}, {{Stretch: math.MaxInt64}}, {{Shrink: math.MaxInt64}},
	{{Order: -1}}, {{Order: 4}}, {{Order: math.MinInt}}, {{Order: math.MaxInt}}, {{Stretch: 1, Order: 5}},
	{{Stretch: 5}, {Stretch: -1}, {Stretch: 5}}, {{Shrink: 5}, {Shrink: -1}, {Shrink: 5}},
	{{Width: 1}, {Width: 1}, {Order: 4}},
	plain(widest, 1), plain(widest, -1), plain(-widest, 1), plain(-widest, -1),
	plain(536870912, 536870912), plain(-536870912, 536870912), plain(536870912, -536870912, 0), plain(widest, -widest),
	{{Stretch: widest}, {Stretch: 1}}, {{Stretch: widest}, {Stretch: 1, Order: 1}}, {{Stretch: 1, Order: 3}, {Stretch: widest, Order: 2}},
	{{Stretch: 357913942}, {Stretch: 357913942, Order: 1}, {Stretch: 357913942, Order: 2}},
	{{Shrink: widest}, {Shrink: 1}}, {{Shrink: 536870912}, {Shrink: 536870912, Order: 2}},
	repeated(api.Glue{}, 2001), repeated(api.Glue{Width: 1, Stretch: 1}, 4000),
	repeated(api.Glue{Width: 536872}, 2000), repeated(api.Glue{Width: -536872}, 2000), repeated(api.Glue{Stretch: 536872}, 2000), repeated(api.Glue{Shrink: 536872}, 2000),
	repeated(api.Glue{Width: widest, Stretch: widest, Shrink: widest}, 2000),
}

// P3.2: valid lists at the edges, and their sums; R5: an empty list is valid
// whether it is nil or not.
func TestTotal(t *testing.T) {
	for i, c := range valid {
		if !May(c.l) {
			t.Errorf("valid list %d is refused", i)
		}
		if sum, ok := Total(c.l); sum != c.sum || !ok {
			t.Errorf("list %d: Total = %v, %v, not %v", i, sum, ok, c.sum)
		}
	}
}

// P3.2, P3.3, P3.4, R2: what is not valid has no sums, no setting, no widths,
// whatever the target.
func TestInvalid(t *testing.T) {
	for i, l := range invalid {
		if May(l) {
			t.Errorf("list %d, which is not valid, is accepted", i)
		}
		if sum, ok := Total(l); sum != (api.Sum{}) || ok {
			t.Errorf("list %d: Total = %v, %v", i, sum, ok)
		}
		for _, target := range edges {
			refused(t, l, target)
		}
	}
}

func refused(t *testing.T, l []api.Glue, target int64) {
	t.Helper()
	if set, ok := Set(l, target); set != (api.Setting{}) || ok {
		t.Errorf("%d glues to %d: Set = %v, %v", len(l), target, set, ok)
	}
	if w, ok := Widths(l, target); len(w) != 0 || ok {
		t.Errorf("%d glues to %d: %d widths, %v", len(l), target, len(w), ok)
	}
}

// P1, R1: a list of a great length is refused, however it goes on.
func TestLongLists(t *testing.T) {
	for _, g := range []api.Glue{{}, {Width: 1}, {Width: math.MinInt64}, {Stretch: math.MaxInt64, Order: 9}} {
		l := repeated(g, 1<<20)
		if May(l) {
			t.Errorf("many of %v are valid", g)
		}
		refused(t, l, 0)
	}
}
