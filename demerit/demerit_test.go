package demerit

import (
	"math"
	"slices"
	"testing"

	"variorum/api"
	"variorum/glue"
	"variorum/item"
)

const widest = api.MaxScaled

func box(width int64) api.Item { return api.Item{Glue: api.Glue{Width: width}} }

func space(width, stretch, shrink int64) api.Item {
	return api.Item{Kind: 1, Glue: api.Glue{Width: width, Stretch: stretch, Shrink: shrink}}
}

func penalty(width int64, p int) api.Item {
	return api.Item{Kind: 2, Glue: api.Glue{Width: width}, Penalty: p}
}

func flagged(x api.Item) api.Item { x.Flag = true; return x }
func fill() api.Item              { return api.Item{Kind: 1, Glue: api.Glue{Stretch: 65536, Order: 1}} }
func forced() api.Item            { return penalty(0, -10000) }

func listed(l ...api.Item) []api.Item                { return l }
func concat(l ...[]api.Item) []api.Item              { return slices.Concat(l...) }
func many[T any](x T, n int) []T                     { return slices.Repeat([]T{x}, n) }
func ends() []api.Item                               { return listed(penalty(0, 10000), fill(), forced()) }
func plain(width int64) api.Glue                     { return api.Glue{Width: width} }
func give(width, st, sh int64) api.Glue              { return api.Glue{Width: width, Stretch: st, Shrink: sh} }
func changed(x api.Item, f func(*api.Item)) api.Item { f(&x); return x }

// odd are items that no valid list has: all their fields are set, and where a
// kind does not ask for one, it is not to be looked at.
func odd(kind int) api.Item {
	return api.Item{Kind: kind, Glue: api.Glue{Width: 9, Stretch: 8, Shrink: 7, Order: 2}, Penalty: -6, Word: -5, Part: -4}
}

// The limits have the document's numbers.
func TestNumbers(t *testing.T) {
	if api.Infinite != 10000 || api.FlagDemerits != 10000 || api.ClassDemerits != 10000 || api.Overfull != 1000000 || api.ItemBox != 0 || api.ItemGlue != 1 || api.ItemPenalty != 2 {
		t.Error("the kinds or the limits are others than the document's")
	}
}

// P10.1: where a line can be broken.
func TestLegal(t *testing.T) {
	s := space(3, 1, 1)
	for i, x := range []struct {
		l     []api.Item
		legal []int
	}{
		{nil, nil},
		{listed(box(1)), nil},
		{listed(s), nil}, // glue behind nothing
		{listed(box(1), s, box(2)), []int{1}},
		{listed(box(1), s, s), []int{1}},                     // glue behind glue
		{listed(box(1), penalty(0, 0), s, box(1)), []int{1}}, // glue behind a penalty
		{listed(penalty(0, 0), s, box(1), s), []int{0, 3}},   // a penalty is one wherever it stands
		{listed(box(0), s), []int{1}},                        // a box need not be wide
		{listed(box(1), api.Item{Kind: 1}), []int{1}},        // nor glue
		{listed(box(1), fill(), forced()), []int{1, 2}},      // of whatever order
		{concat(listed(box(1)), ends()), []int{3}},           // the chapter's example
		{listed(box(1), penalty(5, 9999), box(1)), []int{1}}, // just less
		{listed(box(1), penalty(5, 10000), box(1)), nil},     // not less
		{listed(box(1), penalty(5, 10001), box(1)), nil},     // nor these
		{listed(box(1), penalty(5, math.MaxInt), box(1)), nil},
		{listed(penalty(0, -10001), penalty(0, math.MinInt), penalty(-1, -1)), []int{0, 1, 2}},
		{listed(flagged(penalty(0, 50)), flagged(penalty(0, 10000))), []int{0}},
		{listed(odd(0), odd(1), odd(2), odd(1)), []int{1, 2}},
		{listed(odd(3), odd(1), odd(-1), odd(1), odd(3), odd(-1), odd(math.MaxInt), odd(math.MinInt)), nil}, // kinds that are none
		{listed(box(1), odd(3), s), nil},
	} {
		for _, b := range around(len(x.l)) {
			if got := Legal(x.l, b); got != slices.Contains(x.legal, b) {
				t.Errorf("list %d: Legal at %d is %v", i, b, got)
			}
		}
	}
}

// around are all indices of a list of this length, some beside them, and the
// bounds of numbers.
func around(n int) []int {
	l := []int{math.MinInt, math.MinInt + 1, math.MinInt32, math.MaxInt32, math.MaxInt - 1, math.MaxInt}
	for i := -3; i < n+3; i++ {
		l = append(l, i)
	}
	return l
}

// P10.1: where the next line starts; -1 is asked of first, then each item.
func TestStart(t *testing.T) {
	s := space(3, 1, 1)
	for i, x := range []struct {
		l      []api.Item
		starts []int
	}{
		{nil, []int{0}},
		{listed(box(1)), []int{0, 1}},
		{listed(s), []int{1, 1}},
		{listed(box(1), s, box(2)), []int{0, 2, 2, 3}},
		{listed(s, s, penalty(0, 0), s, box(0), box(1)), []int{4, 4, 4, 4, 4, 5, 6}},
		{listed(s, forced(), s, forced()), []int{1, 1, 3, 3, 4}}, // a line of nothing
		{concat(listed(box(1)), ends()), []int{0, 3, 3, 3, 4}},
		{concat(ends(), ends(), listed(box(1), s)), []int{2, 2, 2, 5, 5, 5, 6, 8, 8}},
		{listed(penalty(0, -9999), penalty(0, 10000), penalty(0, -10001), penalty(0, math.MinInt)), []int{4, 4, 4, 4, 4}}, // penalties that force nothing
		{listed(odd(-1), odd(1), odd(2), odd(3), odd(0)), []int{4, 4, 4, 4, 4, 5}},
		{listed(changed(odd(1), force), changed(odd(3), force), changed(odd(2), force)), []int{2, 2, 2, 3}}, // a penalty of another kind is none
	} {
		for _, a := range around(len(x.l)) {
			want := x.starts[min(max(a, -1), len(x.l)-1)+1]
			if got := Start(x.l, a); got != want {
				t.Errorf("list %d: Start after %d is %d, not %d", i, a, got, want)
			}
		}
	}
}

func force(x *api.Item) { x.Penalty = -10000 }

// P10.2: the glues of lines; those of a line that can't be one too.
func TestGlues(t *testing.T) {
	s := space(3, 2, 1)
	text := concat(listed(box(10), s, box(11), flagged(penalty(4, 50)), box(12), s, s, box(13)), ends())
	fil := api.Glue{Stretch: 65536, Order: 1}
	for i, x := range []struct {
		l    []api.Item
		a, b int
		want []api.Glue
	}{
		{text, -1, 1, []api.Glue{plain(10)}},
		{text, -1, 3, []api.Glue{plain(10), give(3, 2, 1), plain(11), plain(4)}},  // with the hyphen
		{text, -1, 5, []api.Glue{plain(10), give(3, 2, 1), plain(11), plain(12)}}, // without it
		{text, -1, 4, []api.Glue{plain(10), give(3, 2, 1), plain(11)}},            // not legal
		{text, -1, 7, []api.Glue{plain(10), give(3, 2, 1), plain(11), plain(12), give(3, 2, 1), give(3, 2, 1)}},
		{text, 1, 3, []api.Glue{plain(11), plain(4)}}, // the space at the break is left out
		{text, 1, 10, []api.Glue{plain(11), plain(12), give(3, 2, 1), give(3, 2, 1), plain(13), fil, {}}},
		{text, 3, 5, []api.Glue{plain(12)}},
		{text, 5, 10, []api.Glue{plain(13), fil, {}}}, // both spaces are
		{text, 5, 9, []api.Glue{plain(13)}},           // of the penalty of 10000 nothing is wide
		{text, 5, 8, []api.Glue{plain(13), {}}},
		{text, 5, 7, nil},
		{text, 5, 6, nil}, // the line starts behind b
		{text, 8, 10, []api.Glue{{}}},
		{text, 3, 3, []api.Glue{plain(4)}}, // nor is there a line here
		{text, 7, 3, []api.Glue{plain(4)}},
		{text, math.MaxInt, 3, []api.Glue{plain(4)}},
		{text, math.MaxInt, 5, nil},
		{text, math.MinInt, 1, []api.Glue{plain(10)}},
		{text, -2, 3, []api.Glue{plain(10), give(3, 2, 1), plain(11), plain(4)}},
		{text, -1, 0, nil},
		{text, -1, -1, nil},
		{text, -1, 11, nil},
		{text, 3, 11, nil},
		{text, -1, math.MaxInt, nil},
		{text, -1, math.MinInt, nil},
		{nil, -1, 0, nil},
		{concat(text, text), 10, 12, []api.Glue{plain(10)}},
		{concat(text, text), 5, 12, []api.Glue{plain(13), fil, plain(10)}}, // over a forced break
		{concat(ends(), ends()), -1, 5, []api.Glue{fil, {}}},
		{listed(odd(0), odd(1), odd(2), odd(3), odd(0), odd(2)), -1, 5, []api.Glue{odd(0).Glue, odd(1).Glue, odd(0).Glue, plain(9)}},
		{listed(odd(0), odd(3)), -1, 1, []api.Glue{odd(0).Glue}},
	} {
		if got := Glues(x.l, x.a, x.b); !slices.Equal(got, x.want) {
			t.Errorf("%d: the glues from %d to %d are %v, not %v", i, x.a, x.b, got, x.want)
		}
	}
}

// P10.2: ordinary lines, worked out by hand, and each condition for one broken
// alone.
func TestLine(t *testing.T) {
	s := space(3, 2, 1)
	text := concat(listed(box(10), s, box(11), flagged(penalty(4, 50)), box(12), s, s, box(13)), ends())
	for i, x := range []struct {
		l     []api.Item
		a, b  int
		width int64
		want  api.Setting
		ok    bool
	}{
		{text, -1, 1, 10, api.Setting{}, true},
		{text, -1, 1, 11, api.Setting{Excess: 1, Badness: 10000}, true},
		{text, -1, 1, 9, api.Setting{Sign: -1, Excess: -1, Badness: 1000000}, true}, // even though it is too wide
		{text, -1, 3, 28, api.Setting{}, true},
		{text, -1, 3, 29, api.Setting{Sign: 1, Excess: 1, Badness: 12}, true},
		{text, -1, 3, 30, api.Setting{Sign: 1, Excess: 2, Badness: 100}, true},
		{text, -1, 3, 27, api.Setting{Sign: -1, Excess: -1, Badness: 100}, true},
		{text, -1, 5, 37, api.Setting{Sign: 1, Excess: 1, Badness: 12}, true},
		{text, 1, 10, 50, api.Setting{Sign: 1, Order: 1, Excess: 8}, true},
		{text, 5, 10, 13, api.Setting{}, true},
		{text, 5, 10, 99, api.Setting{Sign: 1, Order: 1, Excess: 86}, true},
		{text, -1, 10, widest, api.Setting{Sign: 1, Order: 1, Excess: widest - 55}, true},

		{text, -2, 3, 28, api.Setting{}, false}, // a is not ahead of all, nor legal
		{text, math.MinInt, 3, 28, api.Setting{}, false},
		{text, 0, 3, 28, api.Setting{}, false},
		{text, 6, 10, 13, api.Setting{}, false},
		{text, 8, 10, 13, api.Setting{}, false},
		{text, 10, 10, 0, api.Setting{}, false},
		{text, 11, 10, 0, api.Setting{}, false},
		{text, math.MaxInt, 10, 0, api.Setting{}, false},
		{text, -1, 6, 37, api.Setting{}, false}, // b is not legal
		{text, -1, 8, 55, api.Setting{}, false},
		{text, -1, 9, 55, api.Setting{}, false},
		{text, -1, 0, 0, api.Setting{}, false},
		{text, -1, -1, 0, api.Setting{}, false},
		{text, -1, 11, 0, api.Setting{}, false},
		{text, -1, math.MaxInt, 0, api.Setting{}, false},
		{text, -1, math.MinInt, 0, api.Setting{}, false},
		{text, 3, 3, 4, api.Setting{}, false}, // a is not ahead of b
		{text, 5, 3, 4, api.Setting{}, false},
		{nil, -1, 0, 0, api.Setting{}, false},
		{nil, -1, -1, 0, api.Setting{}, false},

		{listed(penalty(5, 0), s, penalty(6, 0), box(1)), -1, 0, 5, api.Setting{}, false}, // it starts behind b
		{listed(penalty(5, 0), s, penalty(6, 0), box(1)), 0, 2, 6, api.Setting{}, false},
		{listed(penalty(5, 0), s, penalty(6, 0)), 0, 2, 6, api.Setting{}, false}, // it does not start
		{listed(penalty(5, 0), s, forced()), 0, 2, 0, api.Setting{}, true},       // it starts at b
		{listed(forced()), -1, 0, 0, api.Setting{}, true},
		{listed(forced()), -1, 0, 7, api.Setting{Excess: 7, Badness: 10000}, true},
		{listed(penalty(7, -10000)), -1, 0, 7, api.Setting{}, true}, // what is wide at a forced break
		{listed(forced(), forced()), -1, 0, 0, api.Setting{}, true},
		{listed(forced(), forced()), 0, 1, 0, api.Setting{}, true},
		{listed(forced(), forced()), -1, 1, 0, api.Setting{}, false}, // a forced break between them
		{listed(box(1), forced(), box(2), penalty(0, 0)), -1, 3, 3, api.Setting{}, false},
		{listed(box(1), forced(), box(2), penalty(0, 0)), 1, 3, 2, api.Setting{}, true},
		{listed(box(1), penalty(0, -9999), box(2), penalty(0, 0)), -1, 3, 3, api.Setting{}, true}, // one that is none
		{listed(box(1), penalty(0, -10001), box(2), penalty(0, 0)), -1, 3, 3, api.Setting{}, true},
		{listed(box(1), penalty(0, 10000), box(2), penalty(0, 0)), -1, 3, 3, api.Setting{}, true},
		{listed(box(1), changed(box(1), force), box(2), penalty(0, 0)), -1, 3, 4, api.Setting{}, true},
		{listed(penalty(0, 0), forced(), box(2), penalty(0, 0)), 0, 3, 2, api.Setting{}, false},
	} {
		if got, ok := Line(x.l, x.a, x.b, x.width); got != x.want || ok != x.ok {
			t.Errorf("%d: the line from %d to %d is set so: %v, %v", i, x.a, x.b, got, ok)
		}
	}
}

// P10.2, R2: what glue.Set refuses is no line, and its setting zero.
func TestLineNotSet(t *testing.T) {
	for i, x := range []struct {
		l     []api.Item
		width int64
		ok    bool
	}{
		{listed(box(widest), penalty(0, 0)), 0, true},
		{listed(box(widest+1), penalty(0, 0)), 0, false},
		{listed(box(widest), penalty(1, 0)), 0, false},
		{listed(box(widest), penalty(0, 0)), widest, true},
		{listed(box(0), penalty(0, 0)), widest + 1, false},
		{listed(box(0), penalty(0, 0)), -widest, true},
		{listed(box(0), penalty(0, 0)), -widest - 1, false},
		{listed(box(1), penalty(0, 0)), -widest, false}, // the excess
		{listed(box(-1), penalty(0, 0)), widest, false},
		{listed(box(-1), penalty(0, 0)), widest - 1, true},
		{listed(box(0), penalty(0, 0)), math.MaxInt64, false},
		{listed(box(0), penalty(0, 0)), math.MinInt64, false},
		{listed(box(math.MinInt64), penalty(0, 0)), math.MinInt64, false},
		{listed(box(0), space(1, -1, 0), penalty(0, 0)), 1, false},
		{listed(box(0), space(1, 0, -1), penalty(0, 0)), 1, false},
		{listed(changed(box(0), func(x *api.Item) { x.Glue.Stretch = -1 }), penalty(0, 0)), 0, false},
		{listed(changed(box(0), func(x *api.Item) { x.Glue.Order = 4 }), penalty(0, 0)), 0, false},
		{listed(box(0), changed(penalty(0, 0), func(x *api.Item) { x.Glue = api.Glue{Stretch: -1, Shrink: -1, Order: 9} })), 0, true},
		{listed(box(0), api.Item{Kind: 3, Glue: api.Glue{Stretch: -1}}, penalty(0, 0)), 0, true},
		{append(many(box(0), 1999), penalty(0, 0)), 0, true}, // 2000 glues
		{append(many(box(0), 2000), penalty(0, 0)), 0, false},
		{append(many(box(0), 2000), space(1, 1, 1)), 0, true},
		{append(many(box(0), 2001), space(1, 1, 1)), 0, false},
		{append(many(penalty(0, 5), 5000), box(0), penalty(0, 0)), 0, true}, // glues are counted, not items
	} {
		set, ok := Line(x.l, -1, len(x.l)-1, x.width)
		if ok != x.ok || !ok && set != (api.Setting{}) {
			t.Errorf("%d: the line is set so: %v, %v", i, set, ok)
		}
		if want, _ := glue.Set(Glues(x.l, -1, len(x.l)-1), x.width); set != want {
			t.Errorf("%d: %v, not %v", i, set, want)
		}
		d, class, ok := Cost(x.l, -1, len(x.l)-1, x.width, 10000)
		if !x.ok && (d != 0 || class != 0 || ok) {
			t.Errorf("%d: the cost is %d, %d, %v", i, d, class, ok)
		}
	}
}

// The chapter's words by another way.

func legalOf(l []api.Item, b int) bool {
	boxAhead := false
	for i, x := range l {
		if i == b {
			return x.Kind == 2 && x.Penalty < 10000 || x.Kind == 1 && boxAhead
		}
		boxAhead = x.Kind == 0
	}
	return false
}

func forcedOf(x api.Item) bool { return x.Kind == 2 && x.Penalty == -10000 }

// startOf goes through the items from behind.
func startOf(l []api.Item, a int) int {
	start := len(l)
	for i := len(l) - 1; i > a && i >= 0; i-- {
		if l[i].Kind == 0 || forcedOf(l[i]) {
			start = i
		}
	}
	return start
}

func gluesOf(l []api.Item, a, b int) []api.Glue {
	var glues []api.Glue
	for i, x := range l {
		switch {
		case b >= len(l) || i > b:
		case i == b && x.Kind == 2:
			glues = append(glues, plain(x.Glue.Width))
		case i >= startOf(l, a) && i < b && (x.Kind == 0 || x.Kind == 1):
			glues = append(glues, x.Glue)
		}
	}
	return glues
}

func lineOf(l []api.Item, a, b int, width int64) (api.Setting, bool) {
	ok := (a == -1 || legalOf(l, a)) && legalOf(l, b) && a < b && startOf(l, a) <= b
	for i, x := range l {
		if i > a && i < b && forcedOf(x) {
			ok = false
		}
	}
	if !ok {
		return api.Setting{}, false
	}
	return glue.Set(gluesOf(l, a, b), width)
}

// pool are items that could be taken for one another.
func pool() []api.Item {
	return []api.Item{
		box(10), box(0), space(3, 2, 1), fill(), penalty(0, 10000), forced(),
		flagged(penalty(4, 50)), penalty(2, -70), flagged(forced()),
	}
}

// smallLists are all lists of up to n items of the pool, and some that no
// paragraph has.
func smallLists(n int) [][]api.Item {
	lists := [][]api.Item{nil}
	for from := 0; n > 0; n-- {
		to := len(lists)
		for _, l := range lists[from:to] {
			for _, x := range pool() {
				lists = append(lists, append(slices.Clone(l), x))
			}
		}
		from = to
	}
	for kind := -1; kind <= 3; kind++ {
		for _, x := range pool() {
			lists = append(lists, listed(box(10), odd(kind), x, forced()), listed(odd(kind), flagged(odd(2)), x, flagged(odd(kind))))
		}
	}
	return lists
}

// P10.1, P10.2: all lines of all small lists.
func TestSmallLists(t *testing.T) {
	for _, l := range smallLists(4) {
		for a := -3; a <= len(l)+1; a++ {
			if Legal(l, a) != legalOf(l, a) || Start(l, a) != startOf(l, a) {
				t.Errorf("%v at %d: Legal %v, Start %d", l, a, Legal(l, a), Start(l, a))
			}
			for b := -2; b <= len(l)+1; b++ {
				if got, want := Glues(l, a, b), gluesOf(l, a, b); !slices.Equal(got, want) {
					t.Errorf("%v from %d to %d: the glues are %v, not %v", l, a, b, got, want)
				}
				for _, width := range []int64{0, 9, 10, 14} {
					set, ok := Line(l, a, b, width)
					want, wanted := lineOf(l, a, b, width)
					if set != want || ok != wanted {
						t.Errorf("%v from %d to %d, of %d: %v, %v, not %v, %v", l, a, b, width, set, ok, want, wanted)
					}
				}
			}
		}
	}
}

// P10.1, P10.2: the items that package item makes, each line of them.
func TestParagraph(t *testing.T) {
	m := api.Metric{Space: api.Glue{Width: 30, Stretch: 20, Shrink: 10}}
	one := []api.Part{{Width: 100}}
	two := []api.Part{{Width: 60}, {Width: 50}, {Width: 40}}
	words := [][]api.Part{one, two, nil, one, one, two}
	prose, f := item.Prose(m, 15, words)
	verse, g := item.Verse(m, 15, [][][]api.Part{words, {one}, nil, {two, one}})
	if f != (api.Fault{}) || g != (api.Fault{}) {
		t.Fatal(f, g)
	}
	for _, l := range [][]api.Item{prose, verse} {
		for a := -2; a <= len(l); a++ {
			for b := -2; b <= len(l); b++ {
				set, ok := Line(l, a, b, 250)
				want, wanted := lineOf(l, a, b, 250)
				if set != want || ok != wanted || !slices.Equal(Glues(l, a, b), gluesOf(l, a, b)) {
					t.Errorf("from %d to %d: %v, %v, not %v, %v", a, b, set, ok, want, wanted)
				}
			}
		}
	}
}

// R3, R4: no item is changed, and what is done to an answer is seen nowhere.
func TestNothingKeptOrShared(t *testing.T) {
	s := space(3, 2, 1)
	l := concat(listed(box(10), s, box(11), flagged(penalty(4, 50)), box(12), s, box(13)), ends())
	before := slices.Clone(l)
	breaks := []int{3, 9}
	for range 3 {
		for a := -1; a < len(l); a++ {
			for b := range l {
				one, other := Glues(l, a, b), Glues(l, a, b)
				clear(one[:cap(one)])
				if !slices.Equal(other, gluesOf(l, a, b)) || !slices.Equal(Glues(l, a, b), other) {
					t.Errorf("from %d to %d: other glues became %v", a, b, other)
				}
				Legal(l, b)
				Start(l, a)
				Line(l, a, b, 28)
				Cost(l, a, b, 28, 10000)
			}
		}
		first, ok := Total(l, breaks, 28, 10000)
		Total(concat(ends(), l), []int{2, 6, 12}, 5, 10000)
		if again, sure := Total(l, breaks, 28, 10000); again != first || !ok || !sure {
			t.Errorf("Total is %d, %v, and then %d, %v", first, ok, again, sure)
		}
		if !slices.Equal(l, before) || !slices.Equal(breaks, []int{3, 9}) {
			t.Errorf("the items became %v, the breaks %v", l, breaks)
		}
	}
}

// R4: what stands behind a list is neither looked at nor written to.
func TestNothingBehind(t *testing.T) {
	l := listed(space(1, 1, 1), box(1), forced(), box(2), forced())
	short := l[:1]
	if Legal(short, 2) || Start(short, -1) != 1 || Start(short, 1) != 1 || len(Glues(short, -1, 2)) != 0 {
		t.Error("items behind the list are looked at")
	}
	if _, ok := Line(short, -1, 2, 1); ok {
		t.Error("a line ends behind the list")
	}
	if _, ok := Total(l[:3], []int{2, 4}[:1], 1, 10000); !ok {
		t.Error("breaks behind the list are looked at")
	}
	if !slices.Equal(l, listed(space(1, 1, 1), box(1), forced(), box(2), forced())) {
		t.Errorf("the items became %v", l)
	}
}

// R5: lists that are nil and those that are empty are the same.
func TestNilOrEmpty(t *testing.T) {
	for _, l := range [][]api.Item{nil, {}} {
		for _, i := range around(0) {
			if Legal(l, i) || Start(l, i) != 0 {
				t.Errorf("at %d: Legal %v, Start %d", i, Legal(l, i), Start(l, i))
			}
			for _, k := range around(0) {
				_, isLine := Line(l, i, k, 0)
				d, class, isCost := Cost(l, i, k, 0, 10000)
				if len(Glues(l, i, k)) != 0 || isLine || d != 0 || class != 0 || isCost {
					t.Errorf("from %d to %d: a line of nothing", i, k)
				}
			}
		}
		for _, breaks := range [][]int{nil, {}, {-1}, {0}} {
			if d, ok := Total(l, breaks, 0, 10000); d != 0 || ok {
				t.Errorf("nothing broken at %v: %d, %v", breaks, d, ok)
			}
		}
	}
	for _, breaks := range [][]int{nil, {}} {
		if d, ok := Total(listed(forced()), breaks, 0, 10000); d != 0 || ok {
			t.Errorf("no breaks: %d, %v", d, ok)
		}
	}
}
