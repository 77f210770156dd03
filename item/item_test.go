package item

import (
	"math"
	"slices"
	"testing"

	"variorum/api"
)

const widest = api.MaxScaled

// table has a space alone: nothing else of it matters here.
func table() api.Metric {
	return api.Metric{Space: api.Glue{Width: 30, Stretch: 20, Shrink: 10}}
}

func box(word, part int, width int64) api.Item {
	return api.Item{Kind: 0, Glue: api.Glue{Width: width}, Word: word, Part: part}
}

func space() api.Item {
	return api.Item{Kind: 1, Glue: api.Glue{Width: 30, Stretch: 20, Shrink: 10}}
}

func parted(hyphen int64) api.Item {
	return api.Item{Kind: 2, Glue: api.Glue{Width: hyphen}, Penalty: 50, Flag: true}
}

func ends() []api.Item {
	return []api.Item{{Kind: 2, Penalty: 10000}, {Kind: 1, Glue: api.Glue{Stretch: 65536, Order: 1}}, {Kind: 2, Penalty: -10000}}
}

// word has parts of these widths, and sizes that do not matter.
func word(widths ...int64) []api.Part {
	var parts []api.Part
	for _, w := range widths {
		parts = append(parts, api.Part{Text: "text", Width: w, Height: -w, Depth: 3 * w})
	}
	return parts
}

func words(l ...[]api.Part) [][]api.Part         { return l }
func lines(l ...[][]api.Part) [][][]api.Part     { return l }
func listed(l ...api.Item) []api.Item            { return l }
func concat(l ...[]api.Item) []api.Item          { return slices.Concat(l...) }
func many[T any](x T, n int) []T                 { return slices.Repeat([]T{x}, n) }
func tooMany() api.Fault                         { return api.Fault{Code: api.ErrItemMany} }
func withSpace(g api.Glue) (m api.Metric)        { m.Space = g; return m }
func simple(n int, width int64) (l [][]api.Part) { return many(word(width), n) }

// The error and the limits have the document's numbers.
func TestNumbers(t *testing.T) {
	if api.ErrItemMany != 90 || api.MaxItems != 2000 || api.HyphenPenalty != 50 || api.ItemBox != 0 || api.ItemGlue != 1 || api.ItemPenalty != 2 || api.Infinite != 10000 {
		t.Error("the error, the kinds or the limits are others than the document's")
	}
}

// proses are words and their items, the end items left out.
var proses = []struct {
	words [][]api.Part
	items []api.Item
}{
	{nil, nil},
	{words(word(7)), listed(box(0, 0, 7))},
	{words(word(7), word(8)), listed(box(0, 0, 7), space(), box(1, 0, 8))}, // the chapter's example
	{words(word(7, 8)), listed(box(0, 0, 7), parted(5), box(0, 1, 8))},
	{words(word(7, 8, 9), word(0), word(1, 2)), listed(box(0, 0, 7), parted(5), box(0, 1, 8), parted(5), box(0, 2, 9), space(), box(1, 0, 0), space(), box(2, 0, 1), parted(5), box(2, 1, 2))},
	{words(nil), nil}, // words without parts
	{words(nil, nil), listed(space())},
	{words(nil, word(7)), listed(space(), box(1, 0, 7))},
	{words(word(7), nil), listed(box(0, 0, 7), space())},
	{words(word(7), nil, word(8, 9)), listed(box(0, 0, 7), space(), space(), box(2, 0, 8), parted(5), box(2, 1, 9))},
	{words(word(widest - 35)), listed(box(0, 0, widest-35))},
}

// P9.1, P9.2: prose, and the same words as a stanza of one line.
func TestProse(t *testing.T) {
	for _, x := range proses {
		want := concat(x.items, ends())
		if l, f := Prose(table(), 5, x.words); !slices.Equal(l, want) || f != (api.Fault{}) {
			t.Errorf("Prose of %v: %v, %v, not %v", x.words, l, f, want)
		}
		if l, f := Verse(table(), 5, lines(x.words)); !slices.Equal(l, want) || f != (api.Fault{}) {
			t.Errorf("Verse of %v: %v, %v, not %v", x.words, l, f, want)
		}
	}
	if l, f := Prose(table(), 5, words(word(1), word(2))); len(l) != 6 || f != (api.Fault{}) {
		t.Errorf("two words are %d items, %v", len(l), f)
	}
}

// P9.2: lines, whose words are numbered on; empty ones are lines too.
func TestVerse(t *testing.T) {
	for _, x := range []struct {
		lines [][][]api.Part
		items []api.Item
	}{
		{nil, nil},
		{lines(nil), ends()},
		{lines(nil, nil), concat(ends(), ends())},
		{lines(words(word(7)), words(word(8))), concat(listed(box(0, 0, 7)), ends(), listed(box(1, 0, 8)), ends())},
		{lines(nil, words(word(7)), nil, words(word(8), word(9))), concat(ends(), listed(box(0, 0, 7)), ends(), ends(), listed(box(1, 0, 8), space(), box(2, 0, 9)), ends())},
		{lines(words(word(1, 2), nil), words(word(3), word(4, 5))), concat(listed(box(0, 0, 1), parted(5), box(0, 1, 2), space()), ends(), listed(box(2, 0, 3), space(), box(3, 0, 4), parted(5), box(3, 1, 5)), ends())},
	} {
		if l, f := Verse(table(), 5, x.lines); !slices.Equal(l, x.items) || f != (api.Fault{}) {
			t.Errorf("Verse of %v: %v, %v, not %v", x.lines, l, f, x.items)
		}
	}
}

// P9.1, P9.2, R2: what may not be is refused, and what is just in order is not.
func TestRefuses(t *testing.T) {
	unit := withSpace(api.Glue{Width: 1, Stretch: 1, Shrink: 1})
	for i, x := range []struct {
		m      api.Metric
		hyphen int64
		lines  [][][]api.Part
		ok     bool
	}{
		{unit, 1, lines(simple(999, 1)), true}, // 2000 items
		{unit, 1, lines(append(simple(999, 1), nil)), false},
		{unit, 1, lines(simple(1000, 1)), false},
		{unit, 1, lines(words(many(word(1)[0], 999))), true},
		{unit, 1, lines(words(many(word(1)[0], 999), nil)), false},
		{unit, 1, lines(words(many(word(1)[0], 1000))), false},
		{unit, 1, lines(many[[]api.Part](nil, 1998)), true}, // as many spaces as fit
		{unit, 1, lines(many[[]api.Part](nil, 1999)), false},
		{unit, 1, many[[][]api.Part](nil, 666), true}, // 1998 items
		{unit, 1, many[[][]api.Part](nil, 667), false},
		{unit, 1, append(many[[][]api.Part](nil, 665), words(nil, nil, nil)), true},
		{unit, 1, append(many[[][]api.Part](nil, 665), words(nil, nil, nil, nil)), false},
		{unit, 1, append(many(words(word(1)), 499), words(word(1))), true},
		{unit, 1, append(many(words(word(1)), 499), words(word(1), nil)), false},
		{unit, 1, lines(words(word(-1))), false},
		{unit, 1, lines(words(word(math.MinInt64))), false},
		{unit, 1, lines(words(word(1), word(1, -1))), false},
		{unit, 1, lines(words(word(1)), words(word(-1))), false},
		{unit, 1, lines(words(word(widest))), true},
		{unit, 1, lines(words(word(widest + 1))), false},
		{unit, 1, lines(words(word(math.MaxInt64))), false},
		{unit, 1, lines(words(word(math.MaxInt64), word(math.MaxInt64))), false},
		{unit, 1, lines(words(word(widest-2), word(1))), true}, // all widths
		{unit, 1, lines(words(word(widest-1), word(1))), false},
		{unit, 1, lines(words(word(widest-2, 1))), true},
		{unit, 1, lines(words(word(widest-1, 1))), false},
		{unit, 1, lines(words(word(widest-1)), words(word(1))), true},
		{unit, 1, lines(words(word(widest)), words(word(1))), false},
		{unit, 0, lines(words(word(1, 1))), true},
		{unit, -1, lines(words(word(1, 1))), false},
		{unit, math.MinInt64, lines(words(word(1, 1))), false},
		{unit, widest - 2, lines(words(word(1, 1))), true},
		{unit, widest - 1, lines(words(word(1, 1))), false},
		{unit, widest + 1, lines(words(word(0, 0))), false},
		{unit, math.MaxInt64, lines(words(word(0, 0, 0))), false},
		{unit, -1, lines(words(word(1), word(1))), true}, // no hyphen is asked for
		{unit, math.MaxInt64, lines(words(word(1), word(1))), true},
		{withSpace(api.Glue{Width: widest, Stretch: widest - 65536, Shrink: widest}), 1, lines(words(word(0), word(0))), true},
		{withSpace(api.Glue{Width: widest, Stretch: widest - 65535, Shrink: widest}), 1, lines(words(word(0), word(0))), false},
		{withSpace(api.Glue{Stretch: widest - 2*65536}), 1, lines(words(word(0), word(0)), nil), true},
		{withSpace(api.Glue{Stretch: widest - 2*65536 + 1}), 1, lines(words(word(0), word(0)), nil), false},
		{withSpace(api.Glue{Stretch: (widest - 65536) / 2, Order: 3}), 1, lines(words(word(0), word(0), word(0))), true},
		{withSpace(api.Glue{Stretch: (widest-65536)/2 + 1, Order: 3}), 1, lines(words(word(0), word(0), word(0))), false},
		{withSpace(api.Glue{Width: 5, Shrink: 5}), 1, lines(words(word(0), word(0))), true},
		{withSpace(api.Glue{Width: 5, Shrink: 6}), 1, lines(words(word(0), word(0))), false},
		{withSpace(api.Glue{Width: -1}), 1, lines(words(word(0), word(0))), false},
		{withSpace(api.Glue{Width: 5, Shrink: -1}), 1, lines(words(word(0), word(0))), false},
		{withSpace(api.Glue{Width: 5, Stretch: -1}), 1, lines(words(word(0), word(0))), false},
		{withSpace(api.Glue{Width: 5, Order: 4}), 1, lines(words(word(0), word(0))), false},
		{withSpace(api.Glue{Width: 5, Order: -1}), 1, lines(words(word(0), word(0))), false},
		{withSpace(api.Glue{Width: widest + 1}), 1, lines(words(word(0), word(0))), false},
		{withSpace(api.Glue{Width: math.MinInt64, Stretch: -1, Shrink: -1, Order: -1}), 1, lines(words(word(0)), words(word(1, 2))), true}, // no space is asked for
	} {
		l, f := Verse(x.m, x.hyphen, x.lines)
		if (f == api.Fault{}) != x.ok || !x.ok && (f != tooMany() || len(l) != 0) {
			t.Errorf("lines %d: %d items, %v", i, len(l), f)
		}
		if len(x.lines) == 1 {
			if other, fault := Prose(x.m, x.hyphen, x.lines[0]); !slices.Equal(other, l) || fault != f {
				t.Errorf("prose %d: %d items, %v", i, len(other), fault)
			}
		}
		itemsHold(t, x.m, x.hyphen, x.lines)
	}
}

// The chapter's words by another way: the items of each word first, then those
// of the lists, and then whether they may be.

func itemsOf(m api.Metric, hyphen int64, l [][][]api.Part) []api.Item {
	var items []api.Item
	number := 0
	for _, line := range l {
		var all []api.Item
		for _, parts := range line {
			var one []api.Item
			for i, p := range parts {
				one = append(one, parted(hyphen), box(number, i, p.Width))
			}
			all = concat(all, listed(api.Item{Kind: 1, Glue: m.Space}), one[min(1, len(one)):])
			number++
		}
		items = concat(items, all[min(1, len(all)):], ends())
	}
	return items
}

// itemsHold holds the answer against the chapter's words, and what follows from
// them (P9.4).
func itemsHold(t *testing.T, m api.Metric, hyphen int64, all [][][]api.Part) {
	t.Helper()
	l, f := Verse(m, hyphen, all)
	want := itemsOf(m, hyphen, all)
	if !mayOf(want) {
		if f != tooMany() || len(l) != 0 {
			t.Errorf("Verse = %v, %v", l, f)
		}
		return
	}
	if f != (api.Fault{}) || !slices.Equal(l, want) || !May(l) {
		t.Errorf("Verse = %v, %v, not %v", l, f, want)
	}
	var boxes []api.Item
	for number, parts := range slices.Concat(all...) {
		for i, p := range parts {
			boxes = append(boxes, box(number, i, p.Width))
		}
	}
	if got := Boxes(l); !slices.Equal(got, boxes) {
		t.Errorf("the boxes are %v, not %v", got, boxes)
	}
}

// P9.1, P9.2, P9.4: all small stanzas, of words of up to two parts.
func TestSmallStanzas(t *testing.T) {
	pool := [][]api.Part{nil, word(3), word(4, 5)}
	var all [][][]api.Part
	var grow func(l [][]api.Part)
	grow = func(l [][]api.Part) {
		all = append(all, l)
		if len(l) < 3 {
			for _, w := range pool {
				grow(append(slices.Clone(l), w))
			}
		}
	}
	grow(nil)
	for _, a := range all {
		itemsHold(t, table(), 5, lines(a))
		for _, b := range all {
			itemsHold(t, table(), 5, lines(a, b))
			itemsHold(t, table(), -5, lines(b, nil, a))
		}
	}
}

// P9.1, P9.2: lengths at the bounds, in every place.
func TestBounds(t *testing.T) {
	lengths := []int64{0, 1, widest / 3, widest/3 + 1, widest - 1, widest, widest + 1, -1}
	for _, a := range lengths {
		for _, b := range lengths {
			for _, c := range lengths {
				m := withSpace(api.Glue{Width: c, Stretch: a, Shrink: b})
				itemsHold(t, m, a, lines(words(word(b, c))))
				itemsHold(t, m, c, lines(words(word(1), word(1))))
				itemsHold(t, withSpace(api.Glue{Width: a}), 0, lines(words(word(b), word(c))))
				itemsHold(t, m, 0, lines(words(word(a)), words(word(b), word(c))))
			}
		}
	}
}

// P9.3: the boxes, and nothing else, of lists that need not be valid.
func TestBoxes(t *testing.T) {
	odd := api.Item{Kind: 0, Glue: api.Glue{Width: -1, Stretch: 7, Order: 9}, Penalty: 8, Flag: true, Word: -3, Part: -4}
	for _, x := range []struct{ l, boxes []api.Item }{
		{nil, nil},
		{ends(), nil},
		{listed(box(0, 0, 7)), listed(box(0, 0, 7))},
		{listed(space(), box(4, 2, 7), parted(1), box(0, 0, 1), box(4, 2, 7), space()), listed(box(4, 2, 7), box(0, 0, 1), box(4, 2, 7))},
		{listed(odd, api.Item{Kind: 3}, api.Item{Kind: -1}, odd, api.Item{Kind: math.MaxInt}, api.Item{}), listed(odd, odd, api.Item{})},
		{many(box(1, 2, 3), 5000), many(box(1, 2, 3), 5000)},
	} {
		if l := Boxes(x.l); !slices.Equal(l, x.boxes) {
			t.Errorf("the boxes of %v are %v", x.l, l)
		}
	}
}

// P1, R1: words, parts and lines of a great number end in good time, even where
// the same ones stand in all places.
func TestLong(t *testing.T) {
	const n = 1 << 17
	for i, all := range [][][][]api.Part{
		lines(many(word(1), n)), lines(many[[]api.Part](nil, n)), lines(words(many(word(1)[0], n))), many[[][]api.Part](nil, n),
		many(many(many(word(1)[0], n), n), n), many(many[[]api.Part](nil, n), n), many(many(word(1), n), n), many(words(word(1)), n),
		append(many[[][]api.Part](nil, 3), many(many(word(1)[0], n), n)),
	} {
		if l, f := Verse(table(), 1, all); len(l) != 0 || f != tooMany() {
			t.Errorf("lines %d: %d items, %v", i, len(l), f)
		}
		if l, f := Prose(table(), 1, slices.Concat(all[:1]...)); len(all) == 1 && (len(l) != 0 || f != tooMany()) {
			t.Errorf("prose %d: %d items, %v", i, len(l), f)
		}
	}
	for _, x := range []api.Item{box(0, 0, 0), space(), parted(0), {Kind: 9}} {
		l := many(x, n)
		if May(l) || len(Boxes(l)) != n*btoi(x.Kind == 0) {
			t.Errorf("many of %v", x)
		}
	}
}

func btoi(b bool) int {
	if b {
		return 1
	}
	return 0
}

// R3, R4: an answer hangs on its own call alone; what is handed in stays as it
// is; what is done to an answer is seen nowhere.
func TestNothingKeptOrShared(t *testing.T) {
	all := lines(words(word(1, 2), word(3)), words(word(4)))
	want := itemsOf(table(), 5, all)
	for range 3 {
		one, _ := Verse(table(), 5, all)
		other, f := Verse(table(), 5, all)
		Verse(table(), 5, lines(words(word(-1))))
		if !slices.Equal(one, want) || !slices.Equal(other, want) || f != (api.Fault{}) {
			t.Errorf("Verse = %v, %v", one, f)
		}
		boxes := Boxes(one)
		if !May(one) || !slices.Equal(one, want) || len(boxes) != 4 {
			t.Errorf("the items became %v", one)
		}
		boxes[0] = space()
		_ = append(boxes[:1], space(), space())
		if !slices.Equal(one, want) {
			t.Errorf("the items became %v", one)
		}
		again := Boxes(one)
		clear(one)
		if !slices.Equal(other, want) || !slices.Equal(again, Boxes(want)) {
			t.Errorf("other items became %v, boxes %v", other, again)
		}
		prose, _ := Prose(table(), 5, all[0])
		same, _ := Prose(table(), 5, all[0])
		clear(prose)
		if !slices.Equal(same, itemsOf(table(), 5, all[:1])) {
			t.Errorf("other items became %v", same)
		}
	}
	if len(all) != 2 || !slices.Equal(all[0][0], word(1, 2)) || !slices.Equal(all[0][1], word(3)) || !slices.Equal(all[1][0], word(4)) {
		t.Errorf("the words became %v", all)
	}
}

// R4: what stands behind a list is neither looked at nor written to.
func TestNothingBehind(t *testing.T) {
	l := listed(box(0, 0, 1), box(1, 1, 2), space())
	if b := Boxes(l[:1]); len(b) != 1 || !May(l[:1]) {
		t.Errorf("the boxes are %v", b)
	}
	w := words(word(1), word(2), word(-3))
	if items, f := Prose(table(), 0, w[:2]); len(items) != 6 || f != (api.Fault{}) || w[2][0].Width != -3 {
		t.Errorf("Prose = %v, %v", items, f)
	}
	if l[1] != box(1, 1, 2) || l[2] != space() {
		t.Errorf("the items became %v", l)
	}
}

// R5: lists that are nil and those that are empty are the same.
func TestNilOrEmpty(t *testing.T) {
	for _, l := range [][][]api.Part{nil, {}} {
		if items, f := Prose(table(), 5, l); !slices.Equal(items, ends()) || f != (api.Fault{}) {
			t.Errorf("Prose = %v, %v", items, f)
		}
		if items, f := Verse(table(), 5, lines(l)); !slices.Equal(items, ends()) || f != (api.Fault{}) {
			t.Errorf("Verse = %v, %v", items, f)
		}
	}
	for _, parts := range [][]api.Part{nil, {}} {
		if items, f := Prose(table(), 5, words(parts, word(7))); !slices.Equal(items, concat(listed(space(), box(1, 0, 7)), ends())) || f != (api.Fault{}) {
			t.Errorf("Prose = %v, %v", items, f)
		}
	}
	for _, l := range [][][][]api.Part{nil, {}} {
		if items, f := Verse(table(), 5, l); len(items) != 0 || f != (api.Fault{}) {
			t.Errorf("Verse = %v, %v", items, f)
		}
	}
	for _, l := range [][]api.Item{nil, {}} {
		if !May(l) || len(Boxes(l)) != 0 {
			t.Error("no items")
		}
	}
}
