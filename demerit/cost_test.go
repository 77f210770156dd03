package demerit

import (
	"math"
	"slices"
	"testing"
	"time"

	"variorum/api"
	"variorum/item"
)

// elastic is a line of two boxes and a space that gives 297 both ways, so that
// the ratio is the excess, and a break.
func elastic(end api.Item) []api.Item {
	return listed(box(1000), space(500, 297, 297), box(1000), end)
}

// P10.3: each class, at its bounds.
func TestClasses(t *testing.T) {
	for _, x := range []struct {
		excess   int64
		demerits int64
		class    int
	}{
		{0, 100, 2}, {1, 100, 2}, {-1, 100, 2},
		{148, 22 * 22, 2}, {149, 23 * 23, 1}, // badness 12 and 13
		{-148, 22 * 22, 2}, {-149, 23 * 23, 3},
		{296, 109 * 109, 1}, {297, 110 * 110, 0}, // badness 99 and 100
		{-296, 109 * 109, 3}, {-297, 110 * 110, 3},
		{374, 210 * 210, 0},
		{1290, 8199 * 8199, 0}, {1291, 10010 * 10010, 0},
	} {
		d, class, ok := Cost(elastic(penalty(0, 0)), -1, 3, 2500+x.excess, 10000)
		if d != x.demerits || class != x.class || !ok {
			t.Errorf("an excess of %d: %d, %d, %v", x.excess, d, class, ok)
		}
	}
	// A line that has nothing to give, and one that gives without end.
	if d, class, ok := Cost(listed(box(10), forced()), -1, 1, 11, 10000); d != 10010*10010 || class != 0 || !ok {
		t.Errorf("a stiff line: %d, %d, %v", d, class, ok)
	}
	if d, class, ok := Cost(concat(listed(box(10)), ends()), -1, 3, widest, 0); d != 100 || class != 2 || !ok {
		t.Errorf("a filled line: %d, %d, %v", d, class, ok)
	}
}

// P10.3: the tolerance, and badness that none allows.
func TestTolerance(t *testing.T) {
	for _, x := range []struct {
		excess  int64
		badness int
	}{{0, 0}, {-148, 12}, {149, 13}, {297, 100}, {374, 200}, {375, 201}, {1290, 8189}, {1291, 10000}, {99999, 10000}, {-298, 1000000}, {-99999, 1000000}} {
		for _, tolerance := range []int{math.MinInt, -1, 0, 1, 11, 12, 13, 99, 100, 199, 200, 201, 8188, 8189, 9999, 10000, 10001, 999999, 1000000, math.MaxInt} {
			d, class, ok := Cost(elastic(forced()), -1, 3, 2500+x.excess, tolerance)
			want := x.badness <= tolerance && x.badness <= 10000
			if ok != want || !ok && (d != 0 || class != 0) || ok && d != int64(x.badness+10)*int64(x.badness+10) {
				t.Errorf("an excess of %d, a tolerance of %d: %d, %d, %v", x.excess, tolerance, d, class, ok)
			}
		}
	}
}

// P10.3: the penalty of the break, squared as int64s wrap round.
func TestPenalties(t *testing.T) {
	for _, x := range []struct {
		end  api.Item
		more int64
	}{
		{penalty(0, 0), 0}, {penalty(0, 1), 1}, {penalty(0, 50), 2500}, {penalty(0, 9999), 9999 * 9999},
		{penalty(0, -1), -1}, {penalty(0, -50), -2500}, {penalty(0, -9999), -9999 * 9999},
		{forced(), 0}, {penalty(0, -10001), -10001 * 10001}, {flagged(penalty(0, 50)), 2500},
		{penalty(0, math.MinInt32), -1 << 62}, {penalty(0, -3037000500), 9223372036709301616}, {penalty(0, math.MinInt), 0}, {penalty(0, math.MinInt+1), -1},
		{space(7, 5, 5), 0}, // its width is not the line's
		{changed(space(7, 5, 5), func(x *api.Item) { x.Penalty = 50 }), 0}, // a penalty of another kind is none
		{changed(space(7, 5, 5), func(x *api.Item) { x.Penalty = -50 }), 0},
	} {
		l := concat(elastic(x.end), listed(box(1), forced()))
		if d, class, ok := Cost(l, -1, 3, 2500, 0); d != 100+x.more || class != 2 || !ok {
			t.Errorf("broken at %v: %d, %d, %v", x.end, d, class, ok)
		}
		if d, class, ok := Cost(l, -1, 3, 2500-149, 10000); d != 23*23+x.more || class != 3 || !ok {
			t.Errorf("broken at %v: %d, %d, %v", x.end, d, class, ok)
		}
		// At the line's start it costs nothing.
		if d, class, ok := Cost(l, 3, 5, 1, 0); d != 100 || class != 2 || !ok {
			t.Errorf("broken behind %v: %d, %d, %v", x.end, d, class, ok)
		}
	}
	if _, _, ok := Cost(elastic(penalty(0, 10000)), -1, 3, 2500, 10000); ok {
		t.Error("broken at a penalty of 10000")
	}
	// What is wide at the break, once it is one.
	if d, class, ok := Cost(elastic(penalty(149, 0)), -1, 3, 2500, 10000); d != 23*23 || class != 3 || !ok {
		t.Errorf("with a hyphen: %d, %d, %v", d, class, ok)
	}
}

// P10.3: two breaks in a row that have Flag set.
func TestFlags(t *testing.T) {
	for _, first := range []api.Item{penalty(0, 50), forced(), space(0, 0, 0), penalty(0, 10000)} {
		for _, second := range []api.Item{penalty(0, 0), forced(), space(0, 0, 0)} {
			for flags := range 4 {
				a, b := first, second
				a.Flag, b.Flag = flags&1 != 0, flags&2 != 0
				d, class, ok := Cost(listed(box(3), a, box(5), b), 1, 3, 5, 0)
				if first.Penalty == 10000 {
					if d != 0 || class != 0 || ok {
						t.Errorf("behind %v: %d, %d, %v", a, d, class, ok)
					}
					continue
				}
				want := int64(100)
				if flags == 3 {
					want += 10000
				}
				if d != want || class != 2 || !ok {
					t.Errorf("from %v to %v: %d, %d, %v", a, b, d, class, ok)
				}
			}
		}
	}
	// Ahead of all there is no break, and flags within a line are none of its.
	l := listed(flagged(box(3)), flagged(penalty(9, 50)), flagged(box(5)), flagged(penalty(0, 0)))
	if d, _, ok := Cost(l, -1, 1, 12, 0); d != 100+2500 || !ok {
		t.Errorf("the first line: %d, %v", d, ok)
	}
	if d, _, ok := Cost(l, -1, 3, 8, 0); d != 100 || !ok {
		t.Errorf("one line: %d, %v", d, ok)
	}
	if d, _, ok := Cost(l, 1, 3, 5, 0); d != 10100 || !ok {
		t.Errorf("the second line: %d, %v", d, ok)
	}
}

// P10.3: the chapter's example.
func TestExample(t *testing.T) {
	l, f := item.Prose(api.Metric{}, 0, [][]api.Part{{{Text: "a", Width: 10}}})
	if f != (api.Fault{}) {
		t.Fatal(f)
	}
	for _, width := range []int64{10, 11, 100, widest} {
		if d, class, ok := Cost(l, -1, len(l)-1, width, 0); d != 100 || class != 2 || !ok {
			t.Errorf("for %d: %d, %d, %v", width, d, class, ok)
		}
	}
	for _, width := range []int64{9, 0, -1, -widest} {
		if d, class, ok := Cost(l, -1, len(l)-1, width, math.MaxInt); d != 0 || class != 0 || ok {
			t.Errorf("for %d: %d, %d, %v", width, d, class, ok)
		}
	}
}

func costOf(l []api.Item, a, b int, width int64, tolerance int) (int64, int, bool) {
	set, ok := lineOf(l, a, b, width)
	if !ok || set.Badness > tolerance || set.Badness > 10000 {
		return 0, 0, false
	}
	d := int64(set.Badness) + 10
	d *= d
	if p := int64(l[b].Penalty); l[b].Kind == 2 && p > 0 {
		d += p * p
	} else if l[b].Kind == 2 && p < 0 && p != -10000 {
		d -= p * p
	}
	if a >= 0 && l[a].Flag && l[b].Flag {
		d += 10000
	}
	switch bad := set.Badness; {
	case bad > 12 && set.Sign == -1:
		return d, 3, true
	case bad > 12 && bad < 100:
		return d, 1, true
	case bad >= 100:
		return d, 0, true
	}
	return d, 2, true
}

func totalOf(l []api.Item, breaks []int, width int64, tolerance int) (int64, bool) {
	var sum int64
	from := append([]int{-1}, breaks...)
	classes := []int{2}
	for i, b := range breaks {
		d, class, ok := costOf(l, from[i], b, width, tolerance)
		if !ok {
			return 0, false
		}
		sum += d
		if diff := class - classes[i]; diff*diff > 1 {
			sum += 10000
		}
		classes = append(classes, class)
	}
	if len(breaks) == 0 || from[len(breaks)] != len(l)-1 {
		return 0, false
	}
	return sum, true
}

// P10.3: all lines of all small lists.
func TestSmallCosts(t *testing.T) {
	for _, l := range smallLists(4) {
		for a := -2; a <= len(l); a++ {
			for b := a; b <= len(l); b++ {
				for _, width := range []int64{9, 10, 11, 13, 15, 24} {
					for _, tolerance := range []int{-1, 12, 10000, 1000000} {
						d, class, ok := Cost(l, a, b, width, tolerance)
						wantD, wantClass, want := costOf(l, a, b, width, tolerance)
						if d != wantD || class != wantClass || ok != want {
							t.Errorf("%v from %d to %d, of %d, %d: %d, %d, %v, not %d, %d, %v", l, a, b, width, tolerance, d, class, ok, wantD, wantClass, want)
						}
					}
				}
			}
		}
	}
}

// breakLists are all lists of up to n numbers from -1 to the number of items.
func breakLists(items, n int) [][]int {
	lists := [][]int{nil}
	for from := 0; n > 0; n-- {
		to := len(lists)
		for _, l := range lists[from:to] {
			for b := -1; b <= items; b++ {
				lists = append(lists, append(slices.Clone(l), b))
			}
		}
		from = to
	}
	return lists
}

// P10.4: all breaks of all small lists, those that are none too.
func TestSmallTotals(t *testing.T) {
	var breaks [][][]int
	for n := range 6 {
		breaks = append(breaks, breakLists(n, 3))
	}
	for _, l := range smallLists(4) {
		for _, list := range breaks[len(l)] {
			for _, width := range []int64{0, 10, 14} {
				for _, tolerance := range []int{12, 10000} {
					d, ok := Total(l, list, width, tolerance)
					if want, wanted := totalOf(l, list, width, tolerance); d != want || ok != wanted {
						t.Errorf("%v at %v, of %d, %d: %d, %v, not %d, %v", l, list, width, tolerance, d, ok, want, wanted)
					}
				}
			}
		}
	}
}

// lineOfClass is a line that a width of 2500 makes one of this class, and its
// demerits.
func lineOfClass(class int) ([]api.Item, int64) {
	excess := []int64{297, 149, 0, -149}[class]
	return listed(box(1000-excess), space(500, 297, 297), box(1000), penalty(0, 0)), []int64{110 * 110, 23 * 23, 100, 23 * 23}[class]
}

// P10.4: lines of each class behind those of each other one.
func TestUnlike(t *testing.T) {
	for code := range 256 {
		var l []api.Item
		var breaks []int
		var want int64
		before := 2
		for n := range 4 {
			class := code >> (2 * n) & 3
			line, demerits := lineOfClass(class)
			l = append(l, line...)
			breaks = append(breaks, len(l)-1)
			want += demerits
			if class > before+1 || class < before-1 {
				want += 10000
			}
			before = class
		}
		if d, ok := Total(l, breaks, 2500, 10000); d != want || !ok {
			t.Errorf("lines of the classes %d: %d, %v, not %d", code, d, ok, want)
		}
	}
}

// P10.4: paragraphs, worked out by hand, and breaks that are none of theirs.
func TestTotal(t *testing.T) {
	const stiff = 10010 * 10010
	s, hyphen := space(30, 20, 10), flagged(penalty(15, 50))
	// Words of 100, of 60 and 50, and of 80; and one word of three parts.
	text := concat(listed(box(100), s, box(60), hyphen, box(50), s, box(80)), ends())
	word := concat(listed(box(60), hyphen, box(60), hyphen, box(40)), ends())
	for _, x := range []struct {
		l         []api.Item
		breaks    []int
		width     int64
		tolerance int
		want      int64
		ok        bool
	}{
		{text, []int{9}, 350, 0, 100, true},
		{text, []int{9}, 400, 0, 100, true},           // filled up
		{text, []int{9}, 330, 100, 110 * 110, true},   // tight behind decent: beside each other
		{text, []int{9}, 330, 99, 0, false},           // by the tolerance
		{text, []int{9}, 329, 10000, 0, false},        // too wide
		{text, []int{3, 9}, 205, 0, 2600 + 100, true}, // 205 with the hyphen
		{text, []int{3, 9}, 215, 12, 22*22 + 2500 + 100, true},
		{text, []int{3, 9}, 217, 22, 32*32 + 2500 + 100, true},
		{text, []int{3, 9}, 217, 21, 0, false},
		{text, []int{3, 9}, 196, 73, 83*83 + 2500 + 100, true},
		{text, []int{3, 9}, 225, 100, 110*110 + 2500 + 10000 + 100 + 10000, true}, // very loose behind decent, and decent behind that
		{text, []int{5, 9}, 240, 0, 200, true},
		{text, []int{5, 9}, 230, 100, 110*110 + 100, true},
		{text, []int{1, 9}, 240, 10000, stiff + 10000 + 100 + 10000, true},
		{text, []int{1, 9}, 240, 9999, 0, false},
		{text, []int{1, 9}, 199, 10000, 0, false}, // the second line is too wide
		{text, []int{1, 3, 9}, 160, 10000, stiff + 10000 + stiff + 2500 + 100 + 10000, true},
		{word, []int{1, 3, 7}, 75, 0, 2600 + 12600 + 100, true}, // two hyphens in a row
		{word, []int{1, 7}, 100, 10000, stiff + 2500 + 10000 + 100 + 10000, true},

		{text, nil, 350, 10000, 0, false},
		{text, []int{5}, 240, 10000, 0, false}, // the last break is not the last item
		{text, []int{9, 5}, 350, 10000, 0, false},
		{text, []int{9, 9}, 350, 10000, 0, false}, // a line of nothing
		{text, []int{-1, 9}, 350, 10000, 0, false},
		{text, []int{5, 3, 9}, 350, 10000, 0, false}, // backwards
		{text, []int{10}, 350, 10000, 0, false},      // there is no such item
		{text, []int{5, 9, 10}, 350, 10000, 0, false},
		{text, []int{4, 9}, 350, 10000, 0, false}, // not legal
		{text, []int{7, 9}, 350, 10000, 0, false},
		{text, []int{math.MaxInt}, 350, 10000, 0, false},
		{text, []int{math.MinInt, 9}, 350, 10000, 0, false},
		{concat(text, word), []int{17}, 900, 10000, 0, false}, // over a forced break
		{concat(text, word), []int{9, 17}, 900, 0, 200, true},
		{listed(box(5)), []int{0}, 5, 10000, 0, false}, // the last item is no break
	} {
		if d, ok := Total(x.l, x.breaks, x.width, x.tolerance); d != x.want || ok != x.ok {
			t.Errorf("at %v, of %d, %d: %d, %v, not %d, %v", x.breaks, x.width, x.tolerance, d, ok, x.want, x.ok)
		}
	}
}

// P1, R1: all calls with numbers from the bounds.
func TestExtremes(t *testing.T) {
	numbers := []int{math.MinInt, math.MinInt + 1, math.MinInt32, -2, -1, 0, 1, 2, 3, 4, math.MaxInt32, math.MaxInt - 1, math.MaxInt}
	lengths := []int64{math.MinInt64, -1, 0, 1, widest, math.MaxInt64}
	var lists [][]api.Item
	for kind := -1; kind <= 3; kind++ {
		for _, n := range lengths {
			for _, p := range numbers {
				x := api.Item{Kind: kind, Glue: api.Glue{Width: n, Stretch: n, Shrink: n, Order: p}, Penalty: p, Flag: true, Word: p, Part: p}
				lists = append(lists, listed(x), listed(box(n), x, box(0), x))
			}
		}
	}
	for _, l := range lists {
		for _, a := range numbers {
			for _, b := range numbers {
				d, class, ok := Cost(l, a, b, 0, math.MaxInt)
				wantD, wantClass, want := costOf(l, a, b, 0, math.MaxInt)
				if d != wantD || class != wantClass || ok != want {
					t.Errorf("%v from %d to %d: %d, %d, %v", l, a, b, d, class, ok)
				}
				if d, ok := Total(l, []int{a, b}, 0, math.MaxInt); ok {
					if want, _ := totalOf(l, []int{a, b}, 0, math.MaxInt); d != want {
						t.Errorf("%v at %d and %d: %d, not %d", l, a, b, d, want)
					}
				}
				for _, width := range lengths {
					Cost(l, a, b, width, a)
				}
			}
		}
	}
}

// P10.4: sums wrap round like int64s.
func TestWraps(t *testing.T) {
	p := -3037000499 // its square is about 1<<63
	end := penalty(0, p)
	one := 100 - int64(p)*int64(p)
	for n := 1; n <= 6; n++ {
		var l []api.Item
		var breaks []int
		for i := range n {
			l = append(l, box(5), end)
			breaks = append(breaks, 2*i+1)
		}
		if d, ok := Total(l, breaks, 5, 0); d != one*int64(n) || !ok {
			t.Errorf("%d lines: %d, %v", n, d, ok)
		}
	}
}

// P1, R1: lists and breaks of a great number end in good time.
func TestLong(t *testing.T) {
	const n = 1 << 20
	start := time.Now()
	var all, odds []int
	var words []api.Item
	for i := range n {
		all = append(all, i)
		if i%2 == 1 {
			odds = append(odds, i)
			words = append(words, box(5), penalty(0, 0))
		}
	}
	for i, x := range []struct {
		l      []api.Item
		breaks []int
		width  int64
		want   int64
		ok     bool
	}{
		{many(forced(), n), all, 0, 100 * n, true},
		{words, odds, 5, 100 * n / 2, true},
		{append(many(space(1, 1, 1), n-1), forced()), []int{n - 1}, 0, 100, true},
		{append(many(penalty(9, 0), n-1), forced()), []int{n - 1}, 0, 100, true},
		{append(many(penalty(9, 0), n-1), forced()), all, 0, 0, false},
		{words, []int{n - 1}, 5, 0, false},
		{words, many(n-1, n), 5, 0, false},
		{many(box(0), n), []int{n - 1}, 0, 0, false},
		{many(space(1, 1, 1), n), []int{n - 1}, 0, 0, false},
		{many(forced(), n), many(n-1, n), 0, 0, false},
	} {
		if d, ok := Total(x.l, x.breaks, x.width, 10000); d != x.want || ok != x.ok {
			t.Errorf("list %d: %d, %v", i, d, ok)
		}
	}
	if took := time.Since(start); took > time.Minute {
		t.Errorf("took %v", took)
	}
}

// junk may stand about a line without being seen.
func junk() [][]api.Item {
	return [][]api.Item{nil, listed(box(7)), listed(space(1, 2, 3)), listed(forced()), listed(flagged(penalty(3, 20))), listed(odd(1), odd(3)), concat(listed(box(5)), ends())}
}

// P10.5: a line's cost hangs on nothing outside it, other than the item ahead
// of its first break (which tells whether glue can be one).
func TestNothingOutside(t *testing.T) {
	for _, l := range smallLists(4) {
		for b := range l {
			for a := -1; a < b; a++ {
				d, class, ok := Cost(l, a, b, 10, 10000)
				if !ok {
					continue
				}
				for _, ahead := range junk() {
					for _, behind := range junk() {
						from := max(a-1, 0)
						other := concat(ahead, l[from:b+1], behind)
						shift := len(ahead) - from
						if a == -1 {
							other, shift = concat(l[:b+1], behind), 0
						}
						if dd, c, ok := Cost(other, a+shift, b+shift, 10, 10000); dd != d || c != class || !ok {
							t.Errorf("%v from %d to %d: %d, %d, but in %v: %d, %d, %v", l, a, b, d, class, other, dd, c, ok)
						}
					}
				}
			}
		}
	}
}

// P10.5: the initial and the final parts of breaks.
func TestPartsOfBreaks(t *testing.T) {
	seen := 0
	for _, l := range smallLists(4) {
		for _, breaks := range breakLists(len(l), 3) {
			if _, ok := Total(l, breaks, 10, 10000); !ok {
				continue
			}
			for k := 1; k < len(breaks); k++ {
				seen++
				cut := breaks[k-1] + 1
				rest := slices.Clone(breaks[k:])
				for i := range rest {
					rest[i] -= cut
				}
				_, first := Total(l[:cut], breaks[:k], 10, 10000)
				_, final := Total(l[cut:], rest, 10, 10000)
				if !first || !final {
					t.Errorf("%v at %v, parted at %d: %v, %v", l, breaks, k, first, final)
				}
			}
		}
	}
	if seen < 1000 {
		t.Errorf("only %d breaks were parted", seen)
	}
}
