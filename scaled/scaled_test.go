package scaled

import (
	"math"
	"math/big"
	"testing"

	"variorum/api"
)

const widest = 1073741823

// edges are numbers at and beside the bounds that matter, ordinary ones among
// them: of a length, of 32 and 64 bits, and those whose sums or products would
// wrap round.
var edges = []int64{
	0, 1, 2, 3, 5, 7, 10, 16, 131, 4096, 32767, 32768, 32769, 65535, 65536, 65537, 98304, 655360,
	16777216, 536870911, 536870912, widest - 1, widest, widest + 1, widest + 2,
	2*widest - 1, 2 * widest, math.MaxInt32, math.MaxInt32 + 1, 1 << 32, 1<<34 + 1, 1 << 60, 1 << 62, math.MaxInt64 - 1, math.MaxInt64,
}

// signed has each edge with both signs, and the least int64.
func signed() []int64 {
	l := []int64{math.MinInt64}
	for _, n := range edges {
		l = append(l, n, -n)
	}
	return l
}

func fits(n *big.Int) bool {
	return n.CmpAbs(big.NewInt(widest)) <= 0
}

func large(n int64) *big.Int { return big.NewInt(n) }

// check holds an answer against the exact one, which counts only if it fits.
func check(t *testing.T, call string, args []int64, got int64, ok bool, exact *big.Int, argsFit bool) {
	t.Helper()
	want, wantOk := int64(0), false
	if argsFit && fits(exact) {
		want, wantOk = exact.Int64(), true
	}
	if got != want || ok != wantOk {
		t.Errorf("%s%v = %d, %v, not %d, %v", call, args, got, ok, want, wantOk)
	}
}

// P2.1: what fits.
func TestFits(t *testing.T) {
	if api.MaxScaled != widest || api.One != 65536 {
		t.Fatal("the limits are others than the document's")
	}
	for _, n := range signed() {
		if Fits(n) != fits(large(n)) {
			t.Errorf("Fits(%d) = %v", n, Fits(n))
		}
	}
	for n := int64(widest - 3); n <= widest+3; n++ {
		for _, m := range []int64{n, -n} {
			if Fits(m) != (n <= widest) {
				t.Errorf("Fits(%d) = %v", m, Fits(m))
			}
		}
	}
}

// P2.1: sums, differences and products.
func TestSums(t *testing.T) {
	cases := []struct {
		name    string
		call    func(a, b int64) (int64, bool)
		a, b, n int64
		ok      bool
	}{
		{"Add", Add, 1, 2, 3, true},
		{"Add", Add, -5, 2, -3, true},
		{"Add", Add, widest, 0, widest, true},
		{"Add", Add, widest, 1, 0, false},
		{"Add", Add, widest - 1, 1, widest, true},
		{"Add", Add, -widest, -1, 0, false},
		{"Add", Add, -widest, widest, 0, true},
		{"Add", Add, widest + 1, -1, 0, false},
		{"Add", Add, -1, widest + 1, 0, false},
		{"Add", Add, math.MaxInt64, math.MinInt64, 0, false},
		{"Add", Add, math.MaxInt64, 1, 0, false},
		{"Sub", Sub, 1, 2, -1, true},
		{"Sub", Sub, 5, -2, 7, true},
		{"Sub", Sub, -widest, 0, -widest, true},
		{"Sub", Sub, -widest, 1, 0, false},
		{"Sub", Sub, widest, -1, 0, false},
		{"Sub", Sub, widest, widest, 0, true},
		{"Sub", Sub, widest + 1, 1, 0, false},
		{"Sub", Sub, 0, widest + 1, 0, false},
		{"Sub", Sub, math.MinInt64, math.MinInt64, 0, false},
		{"Sub", Sub, 0, math.MinInt64, 0, false},
		{"Times", Times, 3, -4, -12, true},
		{"Times", Times, -65536, -10, 655360, true},
		{"Times", Times, widest, 1, widest, true},
		{"Times", Times, widest, -1, -widest, true},
		{"Times", Times, widest, 2, 0, false},
		{"Times", Times, 32768, 32768, 0, false},
		{"Times", Times, 32769, 32767, widest, true},
		{"Times", Times, widest, widest, 0, false},
		{"Times", Times, 5, 0, 0, true},
		{"Times", Times, 0, widest + 1, 0, true},
		{"Times", Times, 0, math.MinInt64, 0, true},
		{"Times", Times, 0, math.MaxInt64, 0, true},
		{"Times", Times, widest + 1, 0, 0, false},
		{"Times", Times, math.MinInt64, 0, 0, false},
		{"Times", Times, math.MinInt64, -1, 0, false},
		{"Times", Times, 1 << 32, 1 << 32, 0, false},
	}
	for _, c := range cases {
		if n, ok := c.call(c.a, c.b); n != c.n || ok != c.ok {
			t.Errorf("%s(%d, %d) = %d, %v, not %d, %v", c.name, c.a, c.b, n, ok, c.n, c.ok)
		}
	}
}

// P2.1, P1, R1, R2: all pairs of edges, held against exact numbers.
func TestSumsOfEdges(t *testing.T) {
	for _, a := range signed() {
		for _, b := range signed() {
			args := []int64{a, b}
			both := fits(large(a)) && fits(large(b))
			n, ok := Add(a, b)
			check(t, "Add", args, n, ok, new(big.Int).Add(large(a), large(b)), both)
			n, ok = Sub(a, b)
			check(t, "Sub", args, n, ok, new(big.Int).Sub(large(a), large(b)), both)
			n, ok = Times(a, b)
			check(t, "Times", args, n, ok, new(big.Int).Mul(large(a), large(b)), both || a == 0)
		}
	}
}

// P2.1: quotients are cut towards 0; the remainder has the sign of a.
func TestOver(t *testing.T) {
	cases := []struct {
		a, n, quotient, rest int64
		ok                   bool
	}{
		{-7, 2, -3, -1, true},
		{7, 2, 3, 1, true},
		{7, -2, -3, 1, true},
		{-7, -2, 3, -1, true},
		{6, 3, 2, 0, true},
		{-6, 4, -1, -2, true},
		{0, 5, 0, 0, true},
		{1, 2, 0, 1, true},
		{-1, 2, 0, -1, true},
		{widest, 1, widest, 0, true},
		{widest, -1, -widest, 0, true},
		{-widest, widest, -1, 0, true},
		{widest, widest + 1, 0, widest, true},
		{-5, math.MinInt64, 0, -5, true},
		{5, math.MaxInt64, 0, 5, true},
		{5, 0, 0, 0, false},
		{0, 0, 0, 0, false},
		{widest + 1, 1, 0, 0, false},
		{-widest - 1, 2, 0, 0, false},
		{widest + 1, 0, 0, 0, false},
		{math.MinInt64, -1, 0, 0, false},
		{math.MaxInt64, 7, 0, 0, false},
	}
	for _, c := range cases {
		if q, r, ok := Over(c.a, c.n); q != c.quotient || r != c.rest || ok != c.ok {
			t.Errorf("Over(%d, %d) = %d, %d, %v, not %d, %d, %v", c.a, c.n, q, r, ok, c.quotient, c.rest, c.ok)
		}
	}
}

// P2.1, P1, R1, R2: all pairs of edges.
func TestOverEdges(t *testing.T) {
	for _, a := range signed() {
		for _, n := range signed() {
			q, r, ok := Over(a, n)
			if !fits(large(a)) || n == 0 {
				if q != 0 || r != 0 || ok {
					t.Errorf("Over(%d, %d) = %d, %d, %v", a, n, q, r, ok)
				}
				continue
			}
			quotient, rest := new(big.Int).QuoRem(large(a), large(n), new(big.Int))
			if large(q).Cmp(quotient) != 0 || large(r).Cmp(rest) != 0 || !ok {
				t.Errorf("Over(%d, %d) = %d, %d, %v", a, n, q, r, ok)
			}
		}
	}
}

// P2.2: the nearest integer, halves away from 0.
func TestPart(t *testing.T) {
	cases := []struct {
		a, num, den, n int64
		ok             bool
	}{
		{7, 1, 2, 4, true},
		{-7, 1, 2, -4, true},
		{1, 1, 2, 1, true},
		{-1, 1, 2, -1, true},
		{5, 1, 2, 3, true},
		{-5, 1, 2, -3, true},
		{1, 1, 3, 0, true},
		{-1, 1, 3, 0, true},
		{2, 1, 3, 1, true},
		{-2, 1, 3, -1, true},
		{5, 1, 3, 2, true},
		{4, 1, 3, 1, true},
		{100, 0, 7, 0, true},
		{0, widest, 1, 0, true},
		{655360, 3, 4, 491520, true},
		{65536, 98304, 65536, 98304, true},
		{widest, 1, 1, widest, true},
		{-widest, 1, 1, -widest, true},
		{widest, widest, widest, widest, true},
		{-widest, widest, widest, -widest, true},
		{widest, 1, widest, 1, true},
		{widest, 1, 2, 536870912, true},
		{-widest, 1, 2, -536870912, true},
		{536870911, 1, widest, 0, true},
		{536870912, 1, widest, 1, true},
		{widest, widest, widest - 1, 0, false},
		{widest, 2, 1, 0, false},
		{-widest, 2, 1, 0, false},
		{widest, widest, 1, 0, false},
		{357913941, 3, 1, widest, true},
		{536870912, 2, 1, 0, false},
		{715827882, 3, 2, widest, true},
		{715827883, 3, 2, 0, false},
		{-715827883, 3, 2, 0, false},
		{widest - 1, widest, widest - 1, widest, true},
		{7, -1, 2, 0, false},
		{7, 1, 0, 0, false},
		{0, 0, 0, 0, false},
		{0, -1, 1, 0, false},
		{0, 1, 0, 0, false},
		{7, 1, -2, 0, false},
		{7, -1, -2, 0, false},
		{widest + 1, 0, 1, 0, false},
		{-widest - 1, 1, 2, 0, false},
		{0, widest + 1, 1, 0, false},
		{1, widest + 1, widest + 1, 0, false},
		{1, 1, widest + 1, 0, false},
		{0, 0, widest + 1, 0, false},
		{math.MinInt64, 0, 1, 0, false},
		{1, math.MinInt64, 1, 0, false},
		{1, 1, math.MinInt64, 0, false},
		{math.MaxInt64, math.MaxInt64, math.MaxInt64, 0, false},
	}
	for _, c := range cases {
		if n, ok := Part(c.a, c.num, c.den); n != c.n || ok != c.ok {
			t.Errorf("Part(%d, %d, %d) = %d, %v, not %d, %v", c.a, c.num, c.den, n, ok, c.n, c.ok)
		}
	}
}

// nearest rounds the exact a num / den, halves away from 0.
func nearest(a, num, den int64) *big.Int {
	n := new(big.Int).Mul(large(a), large(num))
	negative := n.Sign() < 0
	n.Abs(n).Mul(n, large(2)).Add(n, large(den))
	n.Quo(n, new(big.Int).Mul(large(den), large(2)))
	if negative {
		n.Neg(n)
	}
	return n
}

// P2.2, P1, R1, R2: all triples of edges, and of small numbers.
func TestPartOfEdges(t *testing.T) {
	try := func(a, num, den int64) {
		n, ok := Part(a, num, den)
		right := fits(large(a)) && fits(large(num)) && fits(large(den)) && num >= 0 && den > 0
		exact := new(big.Int)
		if right {
			exact = nearest(a, num, den)
		}
		check(t, "Part", []int64{a, num, den}, n, ok, exact, right)
	}
	for _, a := range signed() {
		for _, num := range signed() {
			for _, den := range signed() {
				try(a, num, den)
			}
		}
	}
	for a := int64(-25); a <= 25; a++ {
		for num := int64(-1); num <= 12; num++ {
			for den := int64(-1); den <= 25; den++ {
				try(a, num, den)
			}
		}
	}
}

// P2.5: the order of a sum's parts does not matter while all that is between
// fits, and a part of one in one is the whole.
func TestAnyOrder(t *testing.T) {
	l := signed()
	for _, a := range l {
		n, ok := Part(a, 65536, 65536)
		check(t, "Part", []int64{a, 65536, 65536}, n, ok, large(a), true)
		for _, b := range l {
			one, okOne := Add(a, b)
			two, okTwo := Add(b, a)
			if one != two || okOne != okTwo {
				t.Errorf("Add(%d, %d) = %d, %v, the other way round %d, %v", a, b, one, okOne, two, okTwo)
			}
			for _, c := range l {
				sumsAgree(t, a, b, c)
			}
		}
	}
}

func sumsAgree(t *testing.T, a, b, c int64) {
	ab, okAB := Add(a, b)
	bc, okBC := Add(b, c)
	left, okLeft := Add(ab, c)
	right, okRight := Add(a, bc)
	if okAB && okBC && (left != right || okLeft != okRight) {
		t.Errorf("%d + %d + %d: %d, %v and %d, %v", a, b, c, left, okLeft, right, okRight)
	}
	if back, ok := Sub(ab, b); okAB && (back != a || !ok) {
		t.Errorf("%d + %d - %d = %d, %v", a, b, b, back, ok)
	}
}

// R3: an answer does not hang on earlier calls.
func TestNothingKept(t *testing.T) {
	for range 3 {
		for _, n := range signed() {
			Add(n, 1)
			Times(n, 7)
			Over(n, 3)
			Part(n, 2, 3)
			Parse(Print(n))
			Parse("-3.x")
			if q, r, ok := Over(-7, 2); q != -3 || r != -1 || !ok {
				t.Errorf("Over(-7, 2) = %d, %d, %v after %d", q, r, ok, n)
			}
			if m, ok := Parse("0.5"); m != 32768 || !ok || Print(1) != "0.00002" {
				t.Errorf("Parse(0.5) = %d, %v, Print(1) = %q after %d", m, ok, Print(1), n)
			}
		}
	}
}
