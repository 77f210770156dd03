package breaker

import (
	"math"
	"slices"
	"testing"
	"time"

	"variorum/api"
	"variorum/demerit"
	"variorum/item"
)

const widest = api.MaxScaled

func box(width int64) api.Item { return api.Item{Glue: api.Glue{Width: width}} }

func space(width, stretch, shrink int64) api.Item {
	return api.Item{Kind: 1, Glue: api.Glue{Width: width, Stretch: stretch, Shrink: shrink}}
}

func penalty(width int64, p int) api.Item {
	return api.Item{Kind: 2, Glue: api.Glue{Width: width}, Penalty: p}
}

func flagged(x api.Item) api.Item { x.Flag = true; return x }
func fill() api.Item              { return api.Item{Kind: 1, Glue: api.Glue{Stretch: 65536, Order: 1}} }
func forced() api.Item            { return penalty(0, -10000) }

func listed(l ...api.Item) []api.Item                { return l }
func concat(l ...[]api.Item) []api.Item              { return slices.Concat(l...) }
func many[T any](x T, n int) []T                     { return slices.Repeat([]T{x}, n) }
func ends() []api.Item                               { return listed(penalty(0, 10000), fill(), forced()) }
func changed(x api.Item, f func(*api.Item)) api.Item { f(&x); return x }

// The limits and errors have the document's numbers.
func TestNumbers(t *testing.T) {
	if api.ErrItemMany != 90 || api.ErrBreakWide != 110 || api.Tolerance != 200 || api.Infinite != 10000 || api.ClassDemerits != 10000 || api.MaxItems != 2000 {
		t.Error("the limits or the errors are others than the document's")
	}
}

// best is what Best answers.
type best struct {
	breaks   []int
	demerits int64
	ok       bool
}

func bestOf(l []api.Item, width int64, tolerance int) best {
	breaks, demerits, ok := Best(l, width, tolerance)
	return best{breaks, demerits, ok}
}

func (x best) is(y best) bool {
	return slices.Equal(x.breaks, y.breaks) && x.demerits == y.demerits && x.ok == y.ok
}

// subsets are all rising lists of indices of n items, in lexicographic order.
func subsets(n int) [][]int {
	lists := [][]int{nil}
	for i := n - 1; i >= 0; i-- {
		var with [][]int
		for _, l := range lists {
			with = append(with, append([]int{i}, l...))
		}
		lists = append(with, lists...)
	}
	slices.SortFunc(lists, slices.Compare)
	return lists
}

// The chapter's words by another way: all lists of breaks, one by one.
func bestByAll(l []api.Item, all [][]int, width int64, tolerance int) best {
	var found best
	if !item.May(l) {
		return found
	}
	for _, breaks := range all {
		d, ok := demerit.Total(l, breaks, width, tolerance)
		if ok && (!found.ok || d < found.demerits) {
			found = best{breaks, d, true}
		}
	}
	return found
}

// pool are items that could be taken for one another.
func pool() []api.Item {
	return []api.Item{
		box(10), box(0), space(3, 2, 1), fill(), penalty(0, 10000), forced(),
		flagged(penalty(4, 50)), penalty(2, -70), penalty(0, 0),
	}
}

// smallLists are all lists of up to n items of the pool.
func smallLists(n int) [][]api.Item {
	lists := [][]api.Item{nil}
	for from := 0; n > 0; n-- {
		to := len(lists)
		for _, l := range lists[from:to] {
			for _, x := range pool() {
				lists = append(lists, append(slices.Clone(l), x))
			}
		}
		from = to
	}
	return lists
}

// P11.1, P11.3, P3: all small lists, against all lists of breaks.
func TestSmallLists(t *testing.T) {
	var all [][][]int
	for n := range 6 {
		all = append(all, subsets(n))
	}
	found := 0
	for _, l := range smallLists(5) {
		for _, width := range []int64{0, 10, 13, 24} {
			for _, tolerance := range []int{12, 10000} {
				got, want := bestOf(l, width, tolerance), bestByAll(l, all[len(l)], width, tolerance)
				if !got.is(want) {
					t.Errorf("%v, of %d, %d: %v, not %v", l, width, tolerance, got, want)
				}
				if got.ok {
					found++
				}
			}
		}
	}
	if found < 1000 {
		t.Errorf("only %d lists can be broken", found)
	}
}

// dice are numbers that look as if they were thrown.
type dice uint64

func (d *dice) throw(n int) int {
	*d = *d*6364136223846793005 + 1442695040888963407
	return int(uint64(*d) >> 33 % uint64(n))
}

// text is a paragraph of words and spaces of many kinds, most of them alike, so
// that many breaks are equally good.
func (d *dice) text(n int) []api.Item {
	var l []api.Item
	for len(l) < n {
		switch d.throw(10) {
		case 0:
			l = append(l, flagged(penalty(2, 50)))
		case 1:
			l = append(l, penalty(int64(d.throw(3)), 100*(d.throw(5)-2)))
		case 2:
			l = append(l, penalty(0, 10000))
		case 3:
			if d.throw(4) == 0 {
				l = append(l, fill(), forced())
			}
		case 4:
			l = append(l, space(int64(d.throw(4)), int64(d.throw(3)), 0))
		default:
			l = append(l, box(int64(5+5*d.throw(2))), space(4, int64(d.throw(6)), int64(d.throw(4))))
		}
	}
	return append(l[:n-1], forced())
}

// P11.1, P11.3, P3: longer paragraphs, against all lists of breaks. Each class
// of a line matters in some of them, and many have several best lists.
func TestAgainstAll(t *testing.T) {
	d := dice(1)
	all := subsets(13)
	found := 0
	for range 300 {
		l := d.text(13)
		for _, width := range []int64{14, 19, 24, 38} {
			for _, tolerance := range []int{100, 10000} {
				got, want := bestOf(l, width, tolerance), bestByAll(l, all, width, tolerance)
				if !got.is(want) {
					t.Errorf("%v, of %d, %d: %v, not %v", l, width, tolerance, got, want)
				}
				if got.ok {
					found++
				}
			}
		}
	}
	if found < 300 {
		t.Errorf("only %d paragraphs can be broken", found)
	}
}

// bestForward is P11.1 from the first break to the last one, with each line's
// cost asked for as it is: it finds the demerits alone.
func bestForward(l []api.Item, width int64, tolerance int) (int64, bool) {
	type way struct {
		demerits [4]int64
		ok       [4]bool
	}
	ways := make([]way, len(l)+1)
	ways[0].ok[2] = true
	for b := range l {
		for a := -1; a < b; a++ {
			if ways[a+1] == (way{}) {
				continue
			}
			cost, class, ok := demerit.Cost(l, a, b, width, tolerance)
			if !ok {
				continue
			}
			for before := range 4 {
				sum := ways[a+1].demerits[before] + cost
				if diff := before - class; diff*diff > 1 {
					sum += 10000
				}
				if ways[a+1].ok[before] && (!ways[b+1].ok[class] || sum < ways[b+1].demerits[class]) {
					ways[b+1].demerits[class], ways[b+1].ok[class] = sum, true
				}
			}
		}
	}
	var least int64
	found := false
	for class, ok := range ways[len(l)].ok {
		if ok && (!found || ways[len(l)].demerits[class] < least) {
			least, found = ways[len(l)].demerits[class], true
		}
	}
	return least, found
}

// P11.1, P11.3: whole paragraphs.
func TestParagraphs(t *testing.T) {
	d := dice(2)
	found := 0
	for range 60 {
		l := d.text(150)
		for _, width := range []int64{30, 60, 121, 500} {
			for _, tolerance := range []int{100, 10000} {
				got := bestOf(l, width, tolerance)
				want, ok := bestForward(l, width, tolerance)
				if got.demerits != want || got.ok != ok {
					t.Fatalf("%v, of %d, %d: %v, not %d, %v", l, width, tolerance, got, want, ok)
				}
				if !ok {
					continue
				}
				found++
				if d, ok := demerit.Total(l, got.breaks, width, tolerance); d != want || !ok {
					t.Errorf("%v, of %d, %d: %v, but its demerits are %d, %v", l, width, tolerance, got, d, ok)
				}
			}
		}
	}
	if found < 100 {
		t.Errorf("only %d paragraphs can be broken", found)
	}
}

// P11.3: forced breaks are among the breaks, and a higher tolerance makes none
// worse.
func TestWhatFollows(t *testing.T) {
	d := dice(3)
	for range 400 {
		l := d.text(40)
		var last best
		for _, tolerance := range []int{-1, 0, 5, 12, 50, 100, 200, 1000, 9999, 10000, 10001, math.MaxInt} {
			x := bestOf(l, 40, tolerance)
			if last.ok && (!x.ok || x.demerits > last.demerits) {
				t.Errorf("%v at %d: %v behind %v", l, tolerance, x, last)
			}
			last = x
			for i, y := range l {
				if x.ok && y.Kind == 2 && y.Penalty == -10000 && !slices.Contains(x.breaks, i) {
					t.Errorf("%v at %d: %v without %d", l, tolerance, x, i)
				}
			}
		}
	}
}

// P11.1: paragraphs worked out by hand.
func TestBest(t *testing.T) {
	stiff := space(2, 0, 0)
	three := concat(listed(box(10), stiff, box(10), stiff, box(10)), ends())
	hyphen := flagged(penalty(2, 50))
	word := concat(listed(box(8), hyphen, box(8), hyphen, box(8)), ends())
	for i, x := range []struct {
		l         []api.Item
		width     int64
		tolerance int
		want      best
	}{
		{three, 22, 0, best{[]int{3, 7}, 200, true}}, // the chapter's example
		{three, 22, 10000, best{[]int{3, 7}, 200, true}},
		{three, 34, 0, best{[]int{7}, 100, true}},
		{three, 33, 0, best{}},
		{three, 33, 9999, best{}},
		// 10 and 22 of 33 are just as bad: the smaller break, and class 0 behind and ahead of class 2.
		{three, 33, 10000, best{[]int{1, 7}, 10010*10010 + 100 + 20000, true}},
		{three, 10, 0, best{[]int{1, 3, 7}, 300, true}},
		{three, 9, 10000, best{}},
		{three, 0, 10000, best{}},
		{three, -1, 10000, best{}},
		{three, widest, 0, best{[]int{7}, 100, true}},
		{three, widest + 1, 10000, best{}}, // it does not fit
		{three, math.MaxInt64, 10000, best{}},
		{three, math.MinInt64, 10000, best{}},
		{three, 34, -1, best{}},
		{three, 34, math.MinInt, best{}},
		{three, 34, math.MaxInt, best{[]int{7}, 100, true}},

		{word, 24, 0, best{[]int{7}, 100, true}},
		{word, 18, 0, best{[]int{3, 7}, 100 + 2500 + 100, true}},
		{word, 17, 0, best{}},
		// Two hyphens in a row, unless they can't be helped.
		{word, 10, 0, best{[]int{1, 3, 7}, 2600 + 12600 + 100, true}},

		// Breaking at a penalty below zero saves its square, at a forced one nothing.
		{listed(box(5), penalty(0, -7), box(5), forced()), 10, 0, best{[]int{3}, 100, true}},
		{listed(box(5), penalty(0, -7), box(5), forced()), 5, 0, best{[]int{1, 3}, 200 - 49, true}},
		{concat(listed(box(5), fill(), penalty(0, -10), box(5)), ends()), 10, 0, best{[]int{2, 6}, 100, true}}, // so these two are equally good
		{concat(listed(box(5), fill(), penalty(0, -9), box(5)), ends()), 10, 0, best{[]int{6}, 100, true}},
		{concat(listed(box(5), fill(), penalty(0, -11), box(5)), ends()), 10, 0, best{[]int{2, 6}, 200 - 121, true}},

		// Lines of nothing.
		{listed(forced()), 0, 0, best{[]int{0}, 100, true}},
		{listed(forced()), 7, 9999, best{}},
		{listed(forced()), 7, 10000, best{[]int{0}, 10010*10010 + 10000, true}},
		{listed(penalty(7, -10000)), 7, 0, best{[]int{0}, 100, true}},
		{listed(forced(), forced(), forced()), 0, 0, best{[]int{0, 1, 2}, 300, true}},
		{listed(forced()), -1, 10000, best{}},

		// The last item is one that can be broken at.
		{listed(box(5), penalty(0, 9999)), 5, 0, best{[]int{1}, 100 + 9999*9999, true}},
		{listed(box(5), penalty(0, 10000)), 5, 10000, best{}},
		{listed(box(5), stiff), 5, 0, best{[]int{1}, 100, true}},
		{listed(box(5), stiff, stiff), 5, 10000, best{}},
		{listed(box(5)), 5, 10000, best{}},
		{concat(ends(), listed(stiff)), 0, 10000, best{}},
		{nil, 0, 10000, best{}},
		{listed(), 0, 10000, best{}},

		// Glue is broken at directly behind a box alone, and a hyphen at the end is one.
		{listed(box(5), penalty(0, 10000), stiff, box(5), forced()), 5, 10000, best{}},
		{listed(box(5), stiff, stiff, box(5), forced()), 5, 0, best{[]int{1, 4}, 200, true}},
		{listed(box(5), hyphen, box(5), hyphen), 7, 0, best{[]int{1, 3}, 2600 + 2600 + 10000, true}},
		{listed(box(5), stiff, box(5), flagged(forced())), 5, 0, best{[]int{1, 3}, 200, true}},
		{listed(box(5), hyphen, box(7), flagged(forced())), 7, 0, best{[]int{1, 3}, 2600 + 10000 + 100, true}},
	} {
		if got := bestOf(x.l, x.width, x.tolerance); !got.is(x.want) {
			t.Errorf("%d, of %d, %d: %v, not %v", i, x.width, x.tolerance, got, x.want)
		}
	}
}

// P11.1: among equally good lists the smallest one, from the first break on:
// a line that is filled up costs 100, and a break at a penalty of -10 saves it.
func TestTies(t *testing.T) {
	filled := func(p int) []api.Item { return listed(box(10), fill(), penalty(0, p)) }
	end := listed(box(10), fill(), forced())
	for i, x := range []struct {
		l     []api.Item
		width int64
		want  best
	}{
		// One word and three, two and two, three and one.
		{concat(filled(0), filled(0), filled(0), end), 30, best{[]int{2, 11}, 200, true}},
		// The smaller break is the better one even if there are more of them.
		{concat(filled(-10), end), 20, best{[]int{2, 5}, 100, true}},
		{concat(filled(-10), filled(-10), filled(-10), end), 40, best{[]int{2, 5, 8, 11}, 100, true}},
		{concat(filled(-10), filled(0), filled(-10), end), 40, best{[]int{2, 8, 11}, 100, true}},
		{concat(filled(0), filled(-10), filled(-10), end), 40, best{[]int{5, 8, 11}, 100, true}},
		{concat(filled(0), filled(-9), filled(-10), end), 40, best{[]int{8, 11}, 100, true}},
		// And so the second one behind a first one that can't be helped.
		{concat(listed(box(40), fill(), forced()), filled(0), filled(0), filled(0), end), 40, best{[]int{2, 14}, 200, true}},
		{concat(listed(box(40), fill(), forced()), filled(0), filled(0), filled(0), end), 30, best{}},
		{concat(listed(box(30), fill(), forced()), filled(0), filled(0), filled(0), end), 30, best{[]int{2, 5, 14}, 300, true}},
	} {
		if got := bestOf(x.l, x.width, 0); !got.is(x.want) {
			t.Errorf("%d: %v, not %v", i, got, x.want)
		}
	}
}

// line is one that a width of 2500 makes of a class: behind its break there may
// be no other line.
func line(class int) []api.Item {
	excess := []int64{297, 149, 0, -149}[class]
	return listed(box(1000-excess), space(500, 297, 297), box(1000), forced())
}

// P11.1: the class of the line ahead of all is 2, and each line is held against
// the one ahead of it.
func TestClasses(t *testing.T) {
	demerits := []int64{110 * 110, 23 * 23, 100, 23 * 23}
	for code := range 256 {
		var l []api.Item
		want := best{ok: true}
		before := 2
		for n := range 4 {
			class := code >> (2 * n) & 3
			l = append(l, line(class)...)
			want.breaks = append(want.breaks, len(l)-1)
			want.demerits += demerits[class]
			if class > before+1 || class < before-1 {
				want.demerits += 10000
			}
			before = class
		}
		if got := bestOf(l, 2500, 10000); !got.is(want) {
			t.Errorf("lines of the classes %d: %v, not %v", code, got, want)
		}
	}
}

// P11.1: the better of two ways to a break is not the one that is better up to
// there, if its last line is unlike the next one.
func TestClassesMatter(t *testing.T) {
	d := dice(4)
	seen := 0
	for range 3000 {
		l := d.text(13)
		got := bestOf(l, 19, 10000)
		if !got.ok {
			continue
		}
		for k := 1; k < len(got.breaks); k++ {
			up, _ := demerit.Total(l[:got.breaks[k]+1], got.breaks[:k+1], 19, 10000)
			if x := bestOf(l[:got.breaks[k]+1], 19, 10000); x.demerits < up {
				seen++
			}
		}
	}
	if seen < 10 {
		t.Errorf("only %d paragraphs have such a break", seen)
	}
}

// invalid are lists that could be broken were they valid.
func invalid() [][]api.Item {
	odd := func(f func(*api.Item)) []api.Item { return concat(listed(changed(box(5), f)), ends()) }
	return [][]api.Item{
		concat(many(box(0), 1998), ends()),
		many(forced(), 2001),
		concat(listed(box(-1), box(6)), ends()),
		concat(listed(box(widest), box(1)), ends()),
		concat(listed(box(5), space(1, 0, 2)), ends()),
		concat(listed(box(5), penalty(0, 10001)), ends()),
		concat(listed(box(5), penalty(0, -10001)), ends()),
		concat(listed(box(5), api.Item{Kind: 3}), ends()),
		concat(listed(box(5), api.Item{Kind: -1}), ends()),
		concat(listed(box(5), changed(space(0, 0, 0), func(x *api.Item) { x.Glue.Order = 4 })), ends()),
		concat(listed(box(5), changed(space(0, 0, 0), func(x *api.Item) { x.Glue.Order = math.MinInt })), ends()),
		odd(func(x *api.Item) { x.Word = -1 }),
		odd(func(x *api.Item) { x.Part = -1 }),
		odd(func(x *api.Item) { x.Flag = true }),
		odd(func(x *api.Item) { x.Penalty = 1 }),
		odd(func(x *api.Item) { x.Glue.Stretch = 1 }),
	}
}

// P11.1, P11.2, P1, R2: what is not valid comes ahead of what is too wide.
func TestInvalid(t *testing.T) {
	for i, l := range invalid() {
		for _, width := range []int64{0, 5, 100, widest, -1, math.MinInt64, math.MaxInt64} {
			if got := bestOf(l, width, 10000); !got.is(best{}) {
				t.Errorf("%d, of %d: %v", i, width, got)
			}
			breaks, emergency, f := Break(l, width)
			if len(breaks) != 0 || emergency || f != (api.Fault{Code: 90, At: 0}) {
				t.Errorf("%d, of %d: %v, %v, %v", i, width, breaks, emergency, f)
			}
		}
	}
}

// P11.2: the tolerance, the emergency, and what is too wide.
func TestBreak(t *testing.T) {
	stiff := space(2, 0, 0)
	three := concat(listed(box(10), stiff, box(10), stiff, box(10)), ends())
	wide := api.Fault{Code: 110, At: 0}
	for i, x := range []struct {
		l         []api.Item
		width     int64
		breaks    []int
		emergency bool
		f         api.Fault
	}{
		{three, 22, []int{3, 7}, false, api.Fault{}},
		{three, 34, []int{7}, false, api.Fault{}},
		{three, 33, []int{1, 7}, true, api.Fault{}},
		{three, 10, []int{1, 3, 7}, false, api.Fault{}},
		{three, 9, nil, false, wide},
		{three, -1, nil, false, wide},
		{three, math.MinInt64, nil, false, wide},
		{three, math.MaxInt64, nil, false, wide},
		{three, widest, []int{7}, false, api.Fault{}},
		{nil, 0, nil, false, wide},
		{listed(box(1)), 1, nil, false, wide}, // it does not end
		{listed(forced()), 0, []int{0}, false, api.Fault{}},
		{listed(forced()), 1, []int{0}, true, api.Fault{}},
		{listed(penalty(0, 10000)), 0, nil, false, wide},
		{ends(), 0, []int{2}, false, api.Fault{}}, // a paragraph without words
		{ends(), 5, []int{2}, true, api.Fault{}},  // its line starts at its break, so nothing fills it up
	} {
		breaks, emergency, f := Break(x.l, x.width)
		if !slices.Equal(breaks, x.breaks) || emergency != x.emergency || f != x.f {
			t.Errorf("%d, of %d: %v, %v, %v", i, x.width, breaks, emergency, f)
		}
	}
	// An excess of 374 by 297 has a badness of 200, one of 375 one of 201.
	for excess := range int64(400) {
		l := listed(box(5), space(0, 297, 0), box(5), forced())
		breaks, emergency, f := Break(l, 10+excess)
		if !slices.Equal(breaks, []int{3}) || emergency != (excess > 374) || f != (api.Fault{}) {
			t.Errorf("an excess of %d: %v, %v, %v", excess, breaks, emergency, f)
		}
	}
}

// P11.2: Break answers what Best does.
func TestBreakIsBest(t *testing.T) {
	d := dice(5)
	seen := [3]int{}
	for range 3000 {
		l := d.text(30)
		for _, width := range []int64{9, 16, 29, 44} {
			breaks, emergency, f := Break(l, width)
			first, second := bestOf(l, width, 200), bestOf(l, width, 10000)
			kind := 2
			want := api.Fault{Code: api.ErrBreakWide}
			switch {
			case first.ok:
				kind, want = 0, api.Fault{}
			case second.ok:
				kind, want = 1, api.Fault{}
			}
			seen[kind]++
			if f != want || emergency != (kind == 1) || !slices.Equal(breaks, [][]int{first.breaks, second.breaks, nil}[kind]) {
				t.Errorf("%v, of %d: %v, %v, %v", l, width, breaks, emergency, f)
			}
		}
	}
	if min(seen[0], seen[1], seen[2]) < 100 {
		t.Errorf("seen are only %v", seen)
	}
}

// R3, R4: calls leave their list as it is, with what stands behind it, and
// answer the same again, in memory of their own.
func TestNothingShared(t *testing.T) {
	d := dice(6)
	for range 300 {
		whole := d.text(40)
		l := whole[:30]
		l[29] = forced()
		before := slices.Clone(whole)
		first := bestOf(l, 50, 10000)
		breaks, emergency, f := Break(l, 50)
		kept := slices.Clone(first.breaks)
		for i := range breaks {
			breaks[i] = -7
		}
		if !slices.Equal(whole, before) || !slices.Equal(first.breaks, kept) {
			t.Fatalf("%v became %v, or %v became %v", before, whole, kept, first.breaks)
		}
		for i := range whole[30:] {
			whole[30+i] = forced()
		}
		if again := bestOf(l, 50, 10000); !again.is(first) {
			t.Errorf("%v, then %v", first, again)
		}
		if again, e, g := Break(l, 50); e != emergency || f != g || len(again) != len(breaks) {
			t.Errorf("%v, %v, then %v, %v", emergency, f, e, g)
		}
	}
}

// P1, R1: the longest paragraphs, whatever they are made of, end in good time.
func TestLong(t *testing.T) {
	start := time.Now()
	piece := concat(listed(box(0)), many(penalty(0, 0), 19))
	texts := [][]api.Item{
		append(slices.Repeat(listed(box(0), space(0, 0, 0)), 999), box(0), forced()),
		append(slices.Repeat(listed(box(0), penalty(0, -9)), 999), box(0), forced()),
		append(slices.Repeat(piece, 99), append(many(penalty(0, 0), 19), forced())...),
		append(concat(many(penalty(0, 0), 998), listed(box(0)), many(penalty(0, 5), 1000)), forced()),
		many(forced(), 2000),
		many(box(0), 2000),
		append(slices.Repeat(listed(box(1000), space(333, 166, 111)), 998), listed(box(5), penalty(0, 10000), fill(), forced())...),
		append(many(api.Item{Kind: 1, Glue: api.Glue{Stretch: 65536, Order: 3}}, 1999), forced()),
	}
	for i, l := range texts {
		if len(l) != 2000 {
			t.Errorf("text %d has %d items", i, len(l))
		}
		for _, width := range []int64{0, 20000, widest} {
			breaks, _, f := Break(l, width)
			if d, ok := demerit.Total(l, breaks, width, 10000); ok != (f == api.Fault{}) {
				t.Errorf("text %d, of %d: %v, but %d, %v", i, width, f, d, ok)
			}
		}
	}
	long := many(forced(), 1<<20)
	if got := bestOf(long, 0, 0); !got.is(best{}) {
		t.Error("a list that is too long is broken")
	}
	if took := time.Since(start); took > time.Minute {
		t.Errorf("took %v", took)
	}
}

// P1, R1: all calls with numbers from the bounds.
func TestExtremes(t *testing.T) {
	numbers := []int{math.MinInt, math.MinInt + 1, -10001, -10000, -1, 0, 1, 4, 10000, 10001, math.MaxInt - 1, math.MaxInt}
	lengths := []int64{math.MinInt64, math.MinInt64 + 1, -widest, -1, 0, 1, widest, widest + 1, math.MaxInt64}
	for kind := -1; kind <= 3; kind++ {
		for _, n := range lengths {
			for _, p := range numbers {
				x := api.Item{Kind: kind, Glue: api.Glue{Width: n, Stretch: n, Shrink: n, Order: p}, Penalty: p, Flag: true, Word: p, Part: p}
				for _, l := range [][]api.Item{listed(x), listed(box(0), x), listed(x, forced()), concat(listed(x), ends())} {
					for _, width := range lengths {
						got := bestOf(l, width, p)
						if want := bestByAll(l, subsets(len(l)), width, p); !got.is(want) {
							t.Errorf("%v, of %d, %d: %v, not %v", l, width, p, got, want)
						}
						if _, _, f := Break(l, width); item.May(l) == (f.Code == api.ErrItemMany) {
							t.Errorf("%v, of %d: %v", l, width, f)
						}
					}
				}
			}
		}
	}
}

// The greatest sums that a valid list has are broken like any others.
func TestGreatSums(t *testing.T) {
	great := concat(listed(box(widest/2), api.Item{Kind: 1, Glue: api.Glue{Width: widest / 2, Stretch: widest / 2, Shrink: widest / 2}}, box(1)), listed(
		api.Item{Kind: 1, Glue: api.Glue{Stretch: widest/2 + 1, Shrink: 0, Order: 3}}, forced()))
	for _, width := range []int64{0, 1, widest/2 - 1, widest / 2, widest/2 + 1, widest - 1, widest} {
		got, want := bestOf(great, width, 10000), bestByAll(great, subsets(len(great)), width, 10000)
		if !item.May(great) || !got.is(want) {
			t.Errorf("of %d: %v, not %v", width, got, want)
		}
	}
}
