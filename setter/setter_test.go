package setter

import (
	"slices"
	"testing"

	"variorum/api"
)

const widest = api.MaxScaled

func box(word, part int, width int64) api.Item {
	return api.Item{Glue: api.Glue{Width: width}, Word: word, Part: part}
}

func space(width, stretch, shrink int64) api.Item {
	return api.Item{Kind: 1, Glue: api.Glue{Width: width, Stretch: stretch, Shrink: shrink}}
}

func penalty(width int64, p int) api.Item {
	return api.Item{Kind: 2, Glue: api.Glue{Width: width}, Penalty: p}
}

func flagged(x api.Item) api.Item { x.Flag = true; return x }
func hyphen(width int64) api.Item { return flagged(penalty(width, 50)) }
func filler(order int) api.Item {
	return api.Item{Kind: 1, Glue: api.Glue{Stretch: 65536, Order: order}}
}
func forced() api.Item                               { return penalty(0, -10000) }
func ends() []api.Item                               { return listed(penalty(0, 10000), filler(1), forced()) }
func stiff() api.Item                                { return space(2, 0, 0) }
func many[T any](x T, n int) []T                     { return slices.Repeat([]T{x}, n) }
func bad(at int) api.Fault                           { return api.Fault{Code: 120, At: at} }
func invalidFault() api.Fault                        { return api.Fault{Code: 90, At: 0} }
func listed(l ...api.Item) []api.Item                { return l }
func concat(l ...[]api.Item) []api.Item              { return slices.Concat(l...) }
func changed(x api.Item, f func(*api.Item)) api.Item { f(&x); return x }

// placed are the boxes of a line: the word, the part, X and the width of each.
func placed(l ...[4]int64) []api.Placed {
	var boxes []api.Placed
	for _, x := range l {
		boxes = append(boxes, api.Placed{Word: int(x[0]), Part: int(x[1]), X: x[2], Width: x[3]})
	}
	return boxes
}

func sameLine(a, b api.Line) bool {
	same := a.From == b.From && a.To == b.To && a.Hyphen == b.Hyphen && a.X == b.X && a.Badness == b.Badness
	return same && slices.Equal(a.Boxes, b.Boxes)
}

func sameLines(a, b []api.Line) bool { return slices.EqualFunc(a, b, sameLine) }

// The errors and the limits have the document's numbers.
func TestNumbers(t *testing.T) {
	if api.ErrItemMany != 90 || api.ErrSetBreaks != 120 || api.MaxItems != 2000 || api.Infinite != 10000 || api.Overfull != 1000000 || api.ItemBox != 0 || api.ItemGlue != 1 || api.ItemPenalty != 2 {
		t.Error("the errors, the kinds or the limits are others than the document's")
	}
}

// parted is a paragraph of a word of one part and a word of two.
func parted() []api.Item {
	return concat(listed(box(0, 0, 10), space(4, 2, 1), box(1, 0, 10), hyphen(3), box(1, 1, 10)), ends())
}

type setting struct {
	l      []api.Item
	breaks []int
	width  int64
	want   []api.Line
}

// words are paragraphs of words, and their lines worked out by hand.
func words() []setting {
	three := concat(listed(box(0, 0, 10), stiff(), box(1, 0, 11), stiff(), box(2, 0, 12)), ends())
	return []setting{
		// The chapter's example.
		{listed(box(0, 0, 10), space(2, 1, 0), box(1, 0, 10), penalty(0, 0)), []int{3}, 25,
			[]api.Line{{To: 3, Boxes: placed([4]int64{0, 0, 0, 10}, [4]int64{1, 0, 15, 10}), X: 25, Badness: 2698}}},
		// Stretched and filled, just right, shrunk, and too wide.
		{parted(), []int{3, 7}, 29, []api.Line{
			{To: 3, Boxes: placed([4]int64{0, 0, 0, 10}, [4]int64{1, 0, 16, 10}), Hyphen: true, X: 26, Badness: 100},
			{From: 4, To: 7, Boxes: placed([4]int64{1, 1, 0, 10}), X: 29}}},
		{parted(), []int{3, 7}, 27, []api.Line{
			{To: 3, Boxes: placed([4]int64{0, 0, 0, 10}, [4]int64{1, 0, 14, 10}), Hyphen: true, X: 24},
			{From: 4, To: 7, Boxes: placed([4]int64{1, 1, 0, 10}), X: 27}}},
		{parted(), []int{3, 7}, 26, []api.Line{
			{To: 3, Boxes: placed([4]int64{0, 0, 0, 10}, [4]int64{1, 0, 13, 10}), Hyphen: true, X: 23, Badness: 100},
			{From: 4, To: 7, Boxes: placed([4]int64{1, 1, 0, 10}), X: 26}}},
		{parted(), []int{3, 7}, 5, []api.Line{
			{To: 3, Boxes: placed([4]int64{0, 0, 0, 10}, [4]int64{1, 0, 13, 10}), Hyphen: true, X: 23, Badness: 1000000},
			{From: 4, To: 7, Boxes: placed([4]int64{1, 1, 0, 10}), X: 10, Badness: 1000000}}},
		// A hyphen that is not at the break has no width, and is none.
		{parted(), []int{1, 7}, 20, []api.Line{
			{To: 1, Boxes: placed([4]int64{0, 0, 0, 10}), X: 10, Badness: 10000},
			{From: 2, To: 7, Boxes: placed([4]int64{1, 0, 0, 10}, [4]int64{1, 1, 10, 10}), X: 20}}},
		{parted(), []int{7}, 34, []api.Line{
			{To: 7, Boxes: placed([4]int64{0, 0, 0, 10}, [4]int64{1, 0, 14, 10}, [4]int64{1, 1, 24, 10}), X: 34}}},
		{parted(), []int{7}, 40, []api.Line{
			{To: 7, Boxes: placed([4]int64{0, 0, 0, 10}, [4]int64{1, 0, 14, 10}, [4]int64{1, 1, 24, 10}), X: 40}}},
		{parted(), []int{7}, -3, []api.Line{
			{To: 7, Boxes: placed([4]int64{0, 0, 0, 10}, [4]int64{1, 0, 13, 10}, [4]int64{1, 1, 23, 10}), X: 33, Badness: 1000000}}},
		// Spaces that do not give.
		{three, []int{3, 7}, 23, []api.Line{
			{To: 3, Boxes: placed([4]int64{0, 0, 0, 10}, [4]int64{1, 0, 12, 11}), X: 23},
			{From: 4, To: 7, Boxes: placed([4]int64{2, 0, 0, 12}), X: 23}}},
		{three, []int{3, 7}, 30, []api.Line{
			{To: 3, Boxes: placed([4]int64{0, 0, 0, 10}, [4]int64{1, 0, 12, 11}), X: 23, Badness: 10000},
			{From: 4, To: 7, Boxes: placed([4]int64{2, 0, 0, 12}), X: 30}}},
		{three, []int{1, 3, 7}, 11, []api.Line{
			{To: 1, Boxes: placed([4]int64{0, 0, 0, 10}), X: 10, Badness: 10000},
			{From: 2, To: 3, Boxes: placed([4]int64{1, 0, 0, 11}), X: 11},
			{From: 4, To: 7, Boxes: placed([4]int64{2, 0, 0, 12}), X: 12, Badness: 1000000}}},
	}
}

// edges are items that words do not become, but are valid.
func edges() []setting {
	b := []api.Item{box(7, 3, 5), box(8, 4, 6), box(9, 5, 0)}
	return []setting{
		// Lines of nothing, with and without a hyphen.
		{listed(forced()), []int{0}, 0, []api.Line{{}}},
		{listed(forced()), []int{0}, 3, []api.Line{{Badness: 10000}}},
		{listed(flagged(penalty(7, -10000))), []int{0}, 7, []api.Line{{Hyphen: true}}},
		{listed(penalty(7, -10000)), []int{0}, 6, []api.Line{{Badness: 1000000}}},
		{listed(forced(), forced()), []int{0, 1}, 0, []api.Line{{}, {From: 1, To: 1}}},
		{ends(), []int{2}, 5, []api.Line{{From: 2, To: 2, Badness: 10000}}},
		// Whose items begin behind the spaces and penalties at the start.
		{listed(stiff(), b[0], forced()), []int{2}, 5, []api.Line{{From: 1, To: 2, Boxes: placed([4]int64{7, 3, 0, 5}), X: 5}}},
		{listed(penalty(9, 10000), b[0], forced()), []int{2}, 5, []api.Line{{From: 1, To: 2, Boxes: placed([4]int64{7, 3, 0, 5}), X: 5}}},
		{listed(b[0], stiff(), stiff(), penalty(9, 1), b[1], forced()), []int{1, 5}, 6, []api.Line{
			{To: 1, Boxes: placed([4]int64{7, 3, 0, 5}), X: 5, Badness: 10000},
			{From: 4, To: 5, Boxes: placed([4]int64{8, 4, 0, 6}), X: 6}}},
		{listed(b[0], forced(), filler(1), forced()), []int{1, 3}, 5, []api.Line{
			{To: 1, Boxes: placed([4]int64{7, 3, 0, 5}), X: 5},
			{From: 3, To: 3, Badness: 10000}}},
		// A penalty in a line, ahead of the break and at it.
		{listed(b[0], penalty(9, 1), stiff(), b[1], penalty(4, 1)), []int{4}, 17, []api.Line{
			{To: 4, Boxes: placed([4]int64{7, 3, 0, 5}, [4]int64{8, 4, 7, 6}), X: 13}}},
		{listed(b[0], penalty(9, 1), stiff(), b[1], penalty(4, 1)), []int{1, 4}, 14, []api.Line{
			{To: 1, Boxes: placed([4]int64{7, 3, 0, 5}), X: 5},
			{From: 3, To: 4, Boxes: placed([4]int64{8, 4, 0, 6}), X: 6, Badness: 10000}}},
		// Broken at glue, the last item, which is not in the line.
		{listed(b[0], b[2], b[1], space(3, 3, 3)), []int{3}, 11, []api.Line{
			{To: 3, Boxes: placed([4]int64{7, 3, 0, 5}, [4]int64{9, 5, 5, 0}, [4]int64{8, 4, 5, 6}), X: 11}}},
		// A space behind the last box moves X, and so does one of a higher order.
		{listed(b[0], space(3, 1, 0), forced()), []int{2}, 9, []api.Line{{To: 2, Boxes: placed([4]int64{7, 3, 0, 5}), X: 9, Badness: 100}}},
		{listed(b[0], filler(2), b[1], filler(1), space(4, 9, 0), b[2], forced()), []int{6}, 20, []api.Line{
			{To: 6, Boxes: placed([4]int64{7, 3, 0, 5}, [4]int64{8, 4, 10, 6}, [4]int64{9, 5, 20, 0}), X: 20}}},
		// A flag at a forced break.
		{listed(b[0], flagged(forced()), b[1], forced()), []int{1, 3}, 5, []api.Line{
			{To: 1, Boxes: placed([4]int64{7, 3, 0, 5}), Hyphen: true, X: 5},
			{From: 2, To: 3, Boxes: placed([4]int64{8, 4, 0, 6}), X: 6, Badness: 1000000}}},
		// What no space can take up alone is taken by the last of them.
		{listed(b[2], space(10, 1, 0), b[2], space(10, 1, 0), b[2], space(10, 1, 0), b[0], forced()), []int{7}, 36, []api.Line{
			{To: 7, Boxes: placed([4]int64{9, 5, 0, 0}, [4]int64{9, 5, 10, 0}, [4]int64{9, 5, 20, 0}, [4]int64{7, 3, 31, 5}), X: 36, Badness: 4}}},
		{listed(b[2], space(10, 0, 2), b[2], space(10, 0, 2), b[2], space(10, 0, 2), b[0], forced()), []int{7}, 31, []api.Line{
			{To: 7, Boxes: placed([4]int64{9, 5, 0, 0}, [4]int64{9, 5, 9, 0}, [4]int64{9, 5, 18, 0}, [4]int64{7, 3, 26, 5}), X: 31, Badness: 30}}},
		// The greatest widths.
		{listed(box(0, 0, widest), forced()), []int{1}, widest, []api.Line{{To: 1, Boxes: placed([4]int64{0, 0, 0, widest}), X: widest}}},
		{listed(b[2], filler(3), b[2], forced()), []int{3}, widest, []api.Line{{To: 3, Boxes: placed([4]int64{9, 5, 0, 0}, [4]int64{9, 5, widest, 0}), X: widest}}},
		{listed(b[2], forced()), []int{1}, -widest, []api.Line{{To: 1, Boxes: placed([4]int64{9, 5, 0, 0}), Badness: 1000000}}},
	}
}

// P12.1: paragraphs worked out by hand.
func TestLines(t *testing.T) {
	for i, x := range append(words(), edges()...) {
		if got, f := Lines(x.l, x.breaks, x.width); !sameLines(got, x.want) || f != (api.Fault{}) {
			t.Errorf("%d: %v, %v, not %v", i, got, f, x.want)
		}
	}
}

// P12.1, R2: the breaks of a valid list that are no lines.
func TestBreaks(t *testing.T) {
	three := concat(listed(box(0, 0, 10), stiff(), box(1, 0, 10), stiff(), box(2, 0, 10)), ends())
	gap := listed(box(0, 0, 1), penalty(0, 0), penalty(0, 0), box(1, 0, 1), forced())
	for i, x := range []struct {
		l      []api.Item
		breaks []int
		width  int64
		at     int
	}{
		{three, nil, 22, 0},
		{three, []int{}, 22, 0},
		{three, []int{3}, 22, 1}, // not the end
		{three, []int{1, 3}, 22, 2},
		{three, []int{0, 7}, 22, 0}, // a box
		{three, []int{5, 7}, 22, 0}, // a penalty of 10000
		{three, []int{6, 7}, 22, 0}, // glue behind a penalty
		{three, []int{1, 2, 7}, 22, 1},
		{three, []int{3, 1, 7}, 22, 1}, // not rising
		{three, []int{3, 3, 7}, 22, 1},
		{three, []int{7, 7}, 22, 1},
		{three, []int{1, 7, 3}, 22, 2},
		{three, []int{-1}, 22, 0},
		{three, []int{-1, 7}, 22, 0},
		{three, []int{3, -1, 7}, 22, 1},
		{three, []int{8}, 22, 0}, // behind all items
		{three, []int{1, 7, 8}, 22, 2},
		{three, []int{1, 3, 7, -9}, 22, 3},
		{three, []int{1, 2, 9}, 22, 1}, // the first of several
		{three, []int{7}, widest + 1, 0},
		{three, []int{7}, -widest - 1, 0},
		{three, []int{1, 7}, -widest + 10, 1}, // the second line does not fit
		{three, []int{1, 3, 7}, -widest + 9, 0},
		{append(ends(), three...), []int{10}, 22, 0}, // across a forced break
		{append(three, ends()...), []int{3, 10}, 22, 1},
		{gap, []int{1, 2, 4}, 1, 1}, // a line that starts behind its break
		{gap, []int{2, 1, 4}, 1, 1},
		{listed(box(0, 0, 1)), nil, 1, 0},
		{listed(box(0, 0, 1)), []int{0}, 1, 0},
		{listed(stiff(), forced()), []int{0, 1}, 2, 0}, // glue behind nothing
		{nil, nil, 0, 0},
		{nil, []int{-1}, 0, 0},
		{nil, []int{0}, 0, 0},
	} {
		if got, f := Lines(x.l, x.breaks, x.width); len(got) != 0 || f != bad(x.at) {
			t.Errorf("%d: %v, %v, not %v", i, got, f, bad(x.at))
		}
	}
}

// invalid are lists that would have lines were they valid.
func invalid() [][]api.Item {
	with := func(x api.Item) []api.Item { return listed(box(0, 0, 5), x, box(1, 0, 5), forced()) }
	of := func(f func(*api.Item)) []api.Item { return with(changed(box(0, 0, 5), f)) }
	return [][]api.Item{
		many(forced(), 2001),
		concat(many(box(0, 0, 0), 2000), listed(forced())),
		with(box(0, 0, -1)),
		with(box(0, 0, widest)),
		with(box(-1, 0, 5)),
		with(box(0, -1, 5)),
		with(space(1, 0, 2)),
		with(space(1, -1, 0)),
		with(filler(4)),
		with(filler(-1)),
		with(penalty(0, 10001)),
		with(penalty(0, -10001)),
		with(penalty(-1, 0)),
		with(api.Item{Kind: 3}),
		with(api.Item{Kind: -1}),
		of(func(x *api.Item) { x.Flag = true }),
		of(func(x *api.Item) { x.Penalty = 1 }),
		of(func(x *api.Item) { x.Glue.Stretch = 1 }),
		with(changed(stiff(), func(x *api.Item) { x.Word = 1 })),
		with(changed(forced(), func(x *api.Item) { x.Part = 1 })),
	}
}

// P12.1, P1, R2: a list that is not valid comes ahead of breaks that are none.
func TestInvalid(t *testing.T) {
	for i, l := range invalid() {
		for _, breaks := range [][]int{{len(l) - 1}, {1, len(l) - 1}, nil, {-1}, {len(l)}, {0}} {
			for _, width := range []int64{10, 0, widest + 1, -widest - 1} {
				if got, f := Lines(l, breaks, width); len(got) != 0 || f != invalidFault() {
					t.Errorf("%d, %v, of %d: %v, %v", i, breaks, width, got, f)
				}
			}
		}
	}
	// As long as a list may be, it is set.
	l := concat(many(box(0, 0, 1), 1999), listed(forced()))
	if got, f := Lines(l, []int{1999}, 1999); len(got) != 1 || len(got[0].Boxes) != 1999 || got[0].X != 1999 || f != (api.Fault{}) {
		t.Errorf("a list of %d items: %d lines, %v", len(l), len(got), f)
	}
}

// P12.2: all boxes, in order, whatever else is in the lines.
func TestWords(t *testing.T) {
	one, two, three := [4]int64{3, 1, 50, 9}, [4]int64{0, 2, -7, 0}, [4]int64{3, 1, 50, 9}
	for i, x := range []struct {
		l    []api.Line
		want []api.Placed
	}{
		{nil, nil},
		{[]api.Line{}, nil},
		{[]api.Line{{}, {From: 1, To: 2, Hyphen: true, X: 3, Badness: 4}}, nil},
		{[]api.Line{{Boxes: placed(one)}}, placed(one)},
		{[]api.Line{{Boxes: placed(one, two)}, {Boxes: placed()}, {Boxes: placed(three)}}, placed(one, two, three)},
		{[]api.Line{{}, {Boxes: placed(two), From: 9}, {Boxes: placed(one, three), X: -1}, {}}, placed(two, one, three)},
	} {
		if got := Words(x.l); !slices.Equal(got, x.want) {
			t.Errorf("%d: %v, not %v", i, got, x.want)
		}
	}
	lines, _ := Lines(parted(), []int{3, 7}, 29)
	want := placed([4]int64{0, 0, 0, 10}, [4]int64{1, 0, 16, 10}, [4]int64{1, 1, 0, 10})
	if got := Words(lines); !slices.Equal(got, want) {
		t.Errorf("%v, not %v", got, want)
	}
}
