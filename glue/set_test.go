package glue

import (
	"math"
	"math/big"
	"slices"
	"testing"

	"variorum/api"
)

// Some lists: of spaces between words, of an infinite one among them, and of
// such as do not give.
var (
	words  = []api.Glue{give(10, 3, 1, 0), give(10, 3, 1, 0), give(20, 6, 2, 0)}
	spring = []api.Glue{give(10, 3, 1, 0), give(0, 5, 0, 1), give(5, 2, 4, 0)}
	mixed  = []api.Glue{give(1, 7, 0, 3), give(2, 8, 0, 2), give(3, 9, 0, 1), give(4, 1, 0, 0), give(5, 3, 0, 3)}
	stiff  = plain(10, -4, 6)
)

// set is a list, a target, and what is asked of them.
type set struct {
	l      []api.Glue
	target int64
	want   api.Setting
	widths []int64
}

var settings = []set{
	{nil, 0, api.Setting{}, nil},
	{nil, 5, api.Setting{Excess: 5, Badness: 10000}, nil},
	{nil, -5, api.Setting{Sign: -1, Excess: -5, Badness: 1000000}, nil},
	{nil, widest, api.Setting{Excess: widest, Badness: 10000}, nil},
	{nil, -widest, api.Setting{Sign: -1, Excess: -widest, Badness: 1000000}, nil},

	{words, 40, api.Setting{}, []int64{10, 10, 20}},
	{words, 41, api.Setting{Sign: 1, Excess: 1, Badness: 0}, []int64{10, 10, 21}},
	{words, 46, api.Setting{Sign: 1, Excess: 6, Badness: 12}, []int64{11, 12, 23}},
	{words, 52, api.Setting{Sign: 1, Excess: 12, Badness: 100}, []int64{13, 13, 26}},
	{words, 64, api.Setting{Sign: 1, Excess: 24, Badness: 800}, []int64{16, 16, 32}},
	{words, 140, api.Setting{Sign: 1, Excess: 100, Badness: 10000}, []int64{35, 35, 70}},
	{words, 39, api.Setting{Sign: -1, Excess: -1, Badness: 2}, []int64{10, 10, 19}},
	{words, 38, api.Setting{Sign: -1, Excess: -2, Badness: 12}, []int64{10, 9, 19}},
	{words, 36, api.Setting{Sign: -1, Excess: -4, Badness: 100}, []int64{9, 9, 18}},
	{words, 35, api.Setting{Sign: -1, Excess: -5, Badness: 1000000}, []int64{9, 9, 18}},
	{words, -widest + 40, api.Setting{Sign: -1, Excess: -widest, Badness: 1000000}, []int64{9, 9, 18}},

	{repeated(api.Glue{Width: 10, Stretch: 1}, 3), 31, api.Setting{Sign: 1, Excess: 1, Badness: 4}, []int64{10, 10, 11}},
	{repeated(api.Glue{Width: 10, Stretch: 1}, 3), 32, api.Setting{Sign: 1, Excess: 2, Badness: 30}, []int64{10, 11, 11}},

	{spring, 25, api.Setting{Sign: 1, Order: 1, Excess: 10}, []int64{10, 10, 5}},
	{spring, 1015, api.Setting{Sign: 1, Order: 1, Excess: 1000}, []int64{10, 1000, 5}},
	{spring, 12, api.Setting{Sign: -1, Excess: -3, Badness: 22}, []int64{10, 0, 2}},
	{spring, 9, api.Setting{Sign: -1, Excess: -6, Badness: 1000000}, []int64{9, 0, 1}},

	{mixed, 25, api.Setting{Sign: 1, Order: 3, Excess: 10}, []int64{8, 2, 3, 4, 8}},
	{mixed, 20, api.Setting{Sign: 1, Order: 3, Excess: 5}, []int64{4, 2, 3, 4, 7}},
	{mixed[1:4], 19, api.Setting{Sign: 1, Order: 2, Excess: 10}, []int64{12, 3, 4}},
	{mixed[2:4], 17, api.Setting{Sign: 1, Order: 1, Excess: 10}, []int64{13, 4}},
	{mixed[3:4], 5, api.Setting{Sign: 1, Excess: 1, Badness: 100}, []int64{5}},
	{mixed, 14, api.Setting{Sign: -1, Excess: -1, Badness: 1000000}, []int64{1, 2, 3, 4, 5}},

	{stiff, 12, api.Setting{}, []int64{10, -4, 6}},
	{stiff, 13, api.Setting{Excess: 1, Badness: 10000}, []int64{10, -4, 6}},
	{stiff, 11, api.Setting{Sign: -1, Excess: -1, Badness: 1000000}, []int64{10, -4, 6}},

	{[]api.Glue{give(0, 0, 5, 3)}, 5, api.Setting{Excess: 5, Badness: 10000}, []int64{0}},
	{[]api.Glue{give(0, 0, 5, 3)}, -4, api.Setting{Sign: -1, Excess: -4, Badness: 51}, []int64{-4}},
	{[]api.Glue{give(0, 0, 0, 3), give(0, 1, 0, 0)}, 1, api.Setting{Sign: 1, Excess: 1, Badness: 100}, []int64{0, 1}},

	{[]api.Glue{give(0, widest, 0, 0)}, widest, api.Setting{Sign: 1, Excess: widest, Badness: 100}, []int64{widest}},
	{[]api.Glue{give(0, 0, widest, 0)}, -widest, api.Setting{Sign: -1, Excess: -widest, Badness: 100}, []int64{-widest}},
	{[]api.Glue{give(0, 1, 0, 0), give(0, widest-1, 0, 0)}, widest, api.Setting{Sign: 1, Excess: widest, Badness: 100}, []int64{1, widest - 1}},
	{[]api.Glue{give(0, 0, widest, 0)}, -7230584, api.Setting{Sign: -1, Excess: -7230584, Badness: 0}, []int64{-7230584}},
}

// P3.3, P3.4: ordinary lists and edges, worked out by hand.
func TestSet(t *testing.T) {
	for i, c := range settings {
		if got, ok := Set(c.l, c.target); got != c.want || !ok {
			t.Errorf("list %d to %d: Set = %v, %v, not %v", i, c.target, got, ok, c.want)
		}
		if w, ok := Widths(c.l, c.target); !slices.Equal(w, c.widths) || !ok {
			t.Errorf("list %d to %d: Widths = %v, %v, not %v", i, c.target, w, ok, c.widths)
		}
	}
}

// P3.3, P3.4, R2: a target, or an excess, that does not fit.
func TestTargetRefused(t *testing.T) {
	for _, l := range [][]api.Glue{nil, words, spring, plain(1), plain(-1), plain(widest), plain(-widest)} {
		for _, target := range []int64{widest + 1, -widest - 1, 1 << 32, -1 << 32, 1<<32 + 40, math.MaxInt64, math.MinInt64} {
			refused(t, l, target)
		}
	}
	for _, c := range []struct{ width, target int64 }{
		{-1, widest}, {1, -widest}, {widest, -1}, {-widest, 1}, {widest, -widest}, {-widest, widest}, {536870912, -536870912},
	} {
		refused(t, plain(c.width), c.target)
		refused(t, []api.Glue{give(c.width, 5, 5, 1)}, c.target)
	}
	for _, c := range []struct{ width, target int64 }{
		{-1, widest - 1}, {1, -widest + 1}, {widest, 0}, {-widest, 0}, {widest, widest}, {-widest, -widest}, {536870911, -536870912},
	} {
		set, ok := Set(plain(c.width), c.target)
		if set.Excess != c.target-c.width || !ok {
			t.Errorf("width %d to %d: Set = %v, %v", c.width, c.target, set, ok)
		}
	}
}

// setOf is P3.3 by another way: it tells what gives by looking through the list
// for each order anew. The list is valid, and all that it takes fits.
func setOf(l []api.Glue, target int64) api.Setting {
	set := api.Setting{Excess: target}
	var shrink int64
	for _, g := range l {
		set.Excess -= g.Width
		shrink += g.Shrink
	}
	if set.Excess < 0 {
		set.Sign, set.Badness = -1, 1000000
		if shrink+set.Excess >= 0 {
			set.Badness = badnessOf(-set.Excess, shrink)
		}
		return set
	}
	if set.Excess == 0 {
		return set
	}
	set.Badness = 10000
	for order := range 4 {
		var stretch int64
		for _, g := range l {
			if g.Order == order {
				stretch += g.Stretch
			}
		}
		if stretch > 0 && order == 0 {
			set.Sign, set.Badness = 1, badnessOf(set.Excess, stretch)
		} else if stretch > 0 {
			set.Sign, set.Order, set.Badness = 1, order, 0
		}
	}
	return set
}

func weight(g api.Glue, set api.Setting) int64 {
	if set.Sign < 0 {
		return g.Shrink
	}
	if set.Sign > 0 && g.Order == set.Order {
		return g.Stretch
	}
	return 0
}

// widthOf is the k-th width by P3.4, in exact numbers: each of the two parts is
// summed up anew.
func widthOf(l []api.Glue, set api.Setting, k int) int64 {
	part := func(n int) int64 {
		var ahead, all int64
		for i, g := range l {
			w := weight(g, set)
			all += w
			if i < n {
				ahead += w
			}
		}
		if all == 0 {
			return 0
		}
		total := set.Excess
		if set.Sign < 0 {
			total = min(-set.Excess, all)
		}
		c := new(big.Int).Mul(big.NewInt(total), big.NewInt(ahead))
		return c.Quo(c, big.NewInt(all)).Int64()
	}
	return l[k].Width + int64(set.Sign)*(part(k+1)-part(k))
}

// follows checks P3.5.
func follows(t *testing.T, l []api.Glue, target int64, set api.Setting, widths []int64) {
	var sum int64
	for i, g := range l {
		sum += widths[i]
		if weight(g, set) == 0 && widths[i] != g.Width {
			t.Errorf("%v to %d: glue %d does not give, but is %d wide", l, target, i, widths[i])
		}
		if widths[i] < g.Width-g.Shrink || set.Sign >= 0 && widths[i] < g.Width || set.Sign <= 0 && widths[i] > g.Width {
			t.Errorf("%v to %d: glue %d is %d wide", l, target, i, widths[i])
		}
	}
	enough := set.Sign != 0 && set.Badness != 1000000 || set.Excess == 0
	if (sum == target) != enough {
		t.Errorf("%v to %d: %v add up to %d", l, target, widths, sum)
	}
}

func setHolds(t *testing.T, l []api.Glue, target int64) {
	t.Helper()
	want := setOf(l, target)
	if set, ok := Set(l, target); set != want || !ok {
		t.Fatalf("%v to %d: Set = %v, %v, not %v", l, target, set, ok, want)
	}
	widths, ok := Widths(l, target)
	if len(widths) != len(l) || !ok {
		t.Fatalf("%v to %d: Widths = %v, %v", l, target, widths, ok)
	}
	for k := range l {
		if w := widthOf(l, want, k); widths[k] != w {
			t.Errorf("%v to %d: width %d is %d, not %d", l, target, k, widths[k], w)
		}
	}
	follows(t, l, target, want, widths)
}

// P3.3, P3.4, P3.5: all lists of up to two out of many glues, and of three out
// of some, to all targets around them.
func TestShortLists(t *testing.T) {
	var many, some []api.Glue
	for _, width := range []int64{-3, 0, 5} {
		for _, stretch := range []int64{0, 1, 3} {
			for _, shrink := range []int64{0, 1, 2} {
				for order := range 4 {
					many = append(many, api.Glue{Width: width, Stretch: stretch, Shrink: shrink, Order: order})
				}
				if width == 5 && shrink != 1 {
					some = append(some, api.Glue{Width: width, Stretch: stretch, Shrink: shrink, Order: int(shrink)})
				}
			}
		}
	}
	for target := int64(-8); target <= 14; target++ {
		setHolds(t, nil, target)
		for i, a := range many {
			setHolds(t, []api.Glue{a}, target)
			for j := i % 3; j < len(many); j += 3 {
				setHolds(t, []api.Glue{a, many[j]}, target)
			}
		}
	}
	for _, a := range some {
		for _, b := range some {
			for _, c := range some {
				for target := int64(5); target <= 27; target++ {
					setHolds(t, []api.Glue{a, b, c}, target)
				}
			}
		}
	}
}

// P3.4, P3.5: lists of the greatest length, of uneven glue, with sums beside
// what fits.
func TestFullLists(t *testing.T) {
	for _, size := range []int64{1, 7, 500000} {
		var l []api.Glue
		for i := range int64(100) {
			l = append(l, api.Glue{Width: (i%5 - 2) * size / 3, Stretch: i * i % 11 * size / 10, Shrink: i * 7 % 13 * size / 12, Order: int(i * i % 3)})
		}
		sum, ok := Total(l)
		if !ok {
			t.Fatalf("size %d: not valid", size)
		}
		for _, target := range []int64{0, 1, -1, 50, 99, 100, 101, sum.Width + 1, sum.Width - 1, sum.Width - sum.Shrink, sum.Width - sum.Shrink - 1, sum.Width - sum.Shrink + 1, 1000000000, -1000000000} {
			setHolds(t, l, target)
		}
	}
	l := repeated(api.Glue{Width: 100000, Stretch: 536870, Shrink: 536869}, 2000)
	for _, target := range []int64{200000000 + 1, widest, 200000000 - 1, -widest + 200000000} {
		widths, ok := Widths(l, target)
		var sum int64
		for _, w := range widths {
			sum += w
			if d := (target - 200000000) / 2000; w-100000 < d-1 || w-100000 > d+1 {
				t.Fatalf("to %d: a width of %d", target, w)
			}
		}
		if least := int64(200000000 - 2000*536869); sum != max(target, least) || !ok {
			t.Errorf("to %d: %d, %v", target, sum, ok)
		}
	}
}

// R3, R4: an answer hangs on its own call alone, the list is left as it is, and
// what is done to an answer is seen nowhere.
func TestNothingKeptOrShared(t *testing.T) {
	for range 3 {
		for i, c := range settings {
			before := slices.Clone(c.l)
			first, _ := Widths(c.l, c.target)
			for k := range first {
				first[k] = 77
			}
			Set(invalid[i%len(invalid)], 5)
			again, ok := Widths(c.l, c.target)
			if !slices.Equal(again, c.widths) || !ok {
				t.Errorf("list %d: %v, %v when asked again", i, again, ok)
			}
			if !slices.Equal(c.l, before) {
				t.Errorf("list %d became %v", i, c.l)
			}
		}
	}
}

// R5: nil and a list with nothing in it.
func TestEmpty(t *testing.T) {
	for _, target := range edges {
		one, okOne := Set(nil, target)
		two, okTwo := Set([]api.Glue{}, target)
		if one != two || okOne != okTwo {
			t.Errorf("to %d: %v, %v for nil, %v, %v for nothing", target, one, okOne, two, okTwo)
		}
		if target >= -widest && target <= widest != okOne {
			t.Errorf("nothing to %d: %v", target, okOne)
		}
		w, ok := Widths([]api.Glue{}, target)
		if len(w) != 0 || ok != okOne {
			t.Errorf("nothing to %d: %v, %v", target, w, ok)
		}
	}
}
