package setter

import (
	"math"
	"slices"
	"testing"
	"time"

	"variorum/api"
	"variorum/breaker"
	"variorum/demerit"
	"variorum/glue"
	"variorum/item"
)

// linesOf is P12.1 by another way: each box and each line counts anew what
// stands ahead of it.
func linesOf(l []api.Item, breaks []int, width int64) ([]api.Line, api.Fault) {
	if !item.May(l) {
		return nil, invalidFault()
	}
	from := append([]int{-1}, breaks...)
	for at, b := range breaks {
		if _, ok := demerit.Line(l, from[at], b, width); !ok {
			return nil, bad(at)
		}
	}
	if from[len(breaks)] != len(l)-1 || len(breaks) == 0 {
		return nil, bad(len(breaks))
	}
	lines := make([]api.Line, len(breaks))
	for at, b := range breaks {
		x, _ := demerit.Line(l, from[at], b, width)
		start := demerit.Start(l, from[at])
		lines[at] = api.Line{From: start, To: b, Hyphen: l[b].Flag, X: upTo(l, from[at], b, b, width), Badness: x.Badness}
		for i := start; i < b; i++ {
			if l[i].Kind == 0 {
				lines[at].Boxes = append(lines[at].Boxes, api.Placed{Word: l[i].Word, Part: l[i].Part, X: upTo(l, from[at], b, i, width), Width: l[i].Glue.Width})
			}
		}
	}
	return lines, api.Fault{}
}

// upTo is where item i stands in the line from a to b.
func upTo(l []api.Item, a, b, i int, width int64) int64 {
	widths, _ := glue.Widths(demerit.Glues(l, a, b), width)
	wide := 0
	for _, x := range l[demerit.Start(l, a):i] {
		if x.Kind != 2 {
			wide++
		}
	}
	var sum int64
	for _, w := range widths[:wide] {
		sum += w
	}
	return sum
}

// pool are items that could be taken for one another.
func pool() []api.Item {
	return []api.Item{
		box(3, 4, 10), box(5, 1, 0), space(3, 2, 1), filler(1), penalty(0, 10000), forced(),
		hyphen(4), penalty(2, -70), flagged(forced()),
	}
}

// smallLists are all lists of n items of the pool.
func smallLists(n int) [][]api.Item {
	if n == 0 {
		return [][]api.Item{nil}
	}
	var lists [][]api.Item
	for _, l := range smallLists(n - 1) {
		for _, x := range pool() {
			lists = append(lists, append(slices.Clone(l), x))
		}
	}
	return lists
}

// allBreaks are all lists of up to n numbers from -1 to top, rising or not.
func allBreaks(n, top int) [][]int {
	lists := [][]int{nil}
	from := 0
	for range n {
		to := len(lists)
		for _, l := range lists[from:to] {
			for b := -1; b <= top; b++ {
				lists = append(lists, append(slices.Clone(l), b))
			}
		}
		from = to
	}
	return lists
}

func linesHold(t *testing.T, l []api.Item, breaks []int, width int64) bool {
	got, f := Lines(l, breaks, width)
	want, fault := linesOf(l, breaks, width)
	if !sameLines(got, want) || f != fault {
		t.Errorf("%v, at %v, of %d: %v, %v, not %v, %v", l, breaks, width, got, f, want, fault)
	}
	return f == api.Fault{}
}

// P12.1: all small lists, at all breaks.
func TestSmallLists(t *testing.T) {
	found := 0
	for n := range 5 {
		all := allBreaks(min(n+1, 3), n)
		for _, l := range smallLists(n) {
			for _, breaks := range all {
				for _, width := range []int64{12, 25} {
					if linesHold(t, l, breaks, width) {
						found++
					}
				}
			}
		}
	}
	if found < 5000 {
		t.Errorf("only %d lists are set", found)
	}
}

// dice are numbers that look as if they were thrown.
type dice uint64

func (d *dice) throw(n int) int {
	*d = *d*6364136223846793005 + 1442695040888963407
	return int(uint64(*d) >> 33 % uint64(n))
}

// text is a paragraph of items of many kinds, in which each box has a word of
// its own.
func (d *dice) text(n int) []api.Item {
	var l []api.Item
	for len(l) < n {
		switch d.throw(8) {
		case 0:
			l = append(l, hyphen(int64(d.throw(9))))
		case 1:
			l = append(l, penalty(int64(d.throw(9)), 100*(d.throw(5)-2)))
		case 2:
			l = append(l, penalty(int64(d.throw(9)), 10000))
		case 3:
			if d.throw(4) == 0 {
				l = append(l, filler(d.throw(4)), forced())
			}
		case 4, 5:
			l = append(l, box(len(l), d.throw(3), int64(d.throw(90))))
		default:
			l = append(l, box(len(l), d.throw(3), int64(d.throw(90))), space(int64(40+d.throw(40)), int64(d.throw(30)), int64(d.throw(40))))
		}
	}
	return append(l[:n-1], forced())
}

// breaks are some of those at which a line can end: all that are forced, and
// others, as often as it happens.
func (d *dice) breaks(l []api.Item) []int {
	var breaks []int
	last := -1
	for b, x := range l {
		must := x.Kind == 2 && x.Penalty == -10000
		if _, ok := demerit.Line(l, last, b, 0); ok && (must || d.throw(5) == 0) {
			breaks = append(breaks, b)
			last = b
		}
	}
	return breaks
}

// followsHold is P12.3 for lines of a width.
func followsHold(t *testing.T, l []api.Item, lines []api.Line, width int64) (full int) {
	var boxes []api.Item
	for _, line := range lines {
		var end int64
		for _, x := range line.Boxes {
			boxes = append(boxes, box(x.Word, x.Part, x.Width))
			if x.X < end {
				t.Errorf("%v, of %d: %v stands on the box ahead", l, width, x)
			}
			end = x.X + x.Width
		}
		if line.X < end {
			t.Errorf("%v, of %d: the line ends at %d, its last box at %d", l, width, line.X, end)
		}
		all := line.X
		if l[line.To].Kind == 2 {
			all += l[line.To].Glue.Width
		}
		if line.Badness < 10000 {
			full++
			if all != width {
				t.Errorf("%v, of %d: a line is %d wide", l, width, all)
			}
		}
	}
	if !slices.Equal(boxes, item.Boxes(l)) {
		t.Errorf("%v, of %d: the boxes are %v", l, width, boxes)
	}
	if words := Words(lines); len(words) != len(boxes) {
		t.Errorf("%v, of %d: %d boxes have %d words", l, width, len(boxes), len(words))
	}
	return full
}

// P12.1, P12.3: paragraphs, wherever they are broken.
func TestParagraphs(t *testing.T) {
	d := dice(1)
	set, full := 0, 0
	for range 500 {
		l := d.text(1 + d.throw(80))
		breaks := d.breaks(l)
		for _, width := range []int64{0, 60, 100, 233, 1000} {
			if linesHold(t, l, breaks, width) {
				set++
			}
			lines, _ := Lines(l, breaks, width)
			full += followsHold(t, l, lines, width)
		}
	}
	if set != 2500 || full < 1000 {
		t.Errorf("only %d paragraphs are set, and %d lines are full", set, full)
	}
}

// P12.3: the paragraphs and stanzas of the layers below, broken at their best.
func TestBest(t *testing.T) {
	m := api.Metric{Space: api.Glue{Width: 30, Stretch: 20, Shrink: 10}}
	d := dice(2)
	full := 0
	for range 200 {
		var stanza [][][]api.Part
		for range 1 + d.throw(3) {
			var line [][]api.Part
			for range 1 + d.throw(20) {
				line = append(line, slices.Repeat([]api.Part{{Width: int64(20 + d.throw(40))}}, 1+d.throw(3)))
			}
			stanza = append(stanza, line)
		}
		l, f := item.Verse(m, 15, stanza)
		breaks, _, fault := breaker.Break(l, 300)
		if f != (api.Fault{}) || fault != (api.Fault{}) {
			t.Fatal(f, fault)
		}
		lines, f := Lines(l, breaks, 300)
		if len(lines) != len(breaks) || f != (api.Fault{}) {
			t.Fatalf("%d lines at %d breaks, %v", len(lines), len(breaks), f)
		}
		full += followsHold(t, l, lines, 300)
	}
	if full < 1000 {
		t.Errorf("only %d lines are full", full)
	}
}

// P1, R1: breaks, widths and items at the bounds of their numbers.
func TestExtremes(t *testing.T) {
	numbers := []int{math.MinInt, math.MinInt + 1, -10001, -10000, -1, 0, 1, 2, 10000, 10001, math.MaxInt - 1, math.MaxInt}
	lengths := []int64{math.MinInt64, math.MinInt64 + 1, -widest - 1, -widest, -1, 0, 1, widest, widest + 1, math.MaxInt64}
	for kind := -1; kind <= 3; kind++ {
		for _, length := range lengths {
			for _, n := range numbers {
				x := api.Item{Kind: kind, Glue: api.Glue{Width: length, Stretch: length, Shrink: length, Order: n}, Penalty: n, Flag: true, Word: n, Part: n}
				plain := api.Item{Kind: kind, Glue: api.Glue{Width: length}, Penalty: n}
				for _, l := range [][]api.Item{listed(x), listed(plain), listed(box(0, 0, 0), x, forced()), listed(box(0, 0, 0), plain, forced())} {
					for _, width := range lengths {
						for _, breaks := range [][]int{{n}, {len(l) - 1}, {n, len(l) - 1}, {len(l) - 1, n}, {0, n}} {
							linesHold(t, l, breaks, width)
						}
					}
				}
			}
		}
	}
	far := []api.Line{{From: math.MinInt, To: math.MaxInt, X: math.MinInt64, Badness: -1, Boxes: []api.Placed{{Word: math.MinInt, Part: math.MaxInt, X: math.MaxInt64, Width: math.MinInt64}}}}
	if got := Words(far); !slices.Equal(got, far[0].Boxes) {
		t.Errorf("%v", got)
	}
}

// P1, R1: the longest lists end in good time.
func TestLong(t *testing.T) {
	start := time.Now()
	rising := make([]int, 1<<22)
	for i := range rising {
		rising[i] = i
	}
	for i, x := range []struct {
		l      []api.Item
		breaks []int
		many   int
		f      api.Fault
	}{
		{many(forced(), 2000), rising[:2000], 2000, api.Fault{}},
		{many(forced(), 2000), rising, 0, bad(2000)},
		{many(forced(), 2000), rising[1:], 0, bad(0)},
		{many(forced(), 1<<22), rising, 0, invalidFault()},
		{append(slices.Repeat(listed(box(0, 0, 1), stiff()), 999), box(0, 0, 1), forced()), []int{1999}, 1, api.Fault{}},
		{append(many(penalty(0, 0), 1999), forced()), []int{1999}, 1, api.Fault{}},
		{append(many(penalty(0, 0), 1999), forced()), rising[:2000], 0, bad(0)}, // lines start at the last item alone
	} {
		if lines, f := Lines(x.l, x.breaks, 0); len(lines) != x.many || f != x.f {
			t.Errorf("%d: %d lines, %v", i, len(lines), f)
		}
	}
	lines := many(api.Line{Boxes: many(api.Placed{Word: 1}, 1000)}, 1000)
	if got := Words(lines); len(got) != 1000000 {
		t.Errorf("%d boxes", len(got))
	}
	if took := time.Since(start); took > time.Minute {
		t.Errorf("took %v", took)
	}
}

// R3, R4: calls leave their lists as they are, with what stands behind them,
// and answer the same again, in memory of their own.
func TestNothingShared(t *testing.T) {
	whole := concat(parted(), parted())
	all := []int{3, 7, 7}
	l, breaks := whole[:8], all[:2]
	before := slices.Clone(whole)
	first, _ := Lines(l, breaks, 29)
	want, _ := linesOf(l, breaks, 29)
	for range 2 {
		lines, f := Lines(l, breaks, 29)
		if !sameLines(lines, want) || f != (api.Fault{}) {
			t.Fatalf("%v, %v, not %v", lines, f, want)
		}
		boxes := Words(lines)
		again := Words(lines)
		clear(boxes[:cap(boxes)])
		if !sameLines(lines, want) || len(again) != 3 || again[1] != want[0].Boxes[1] {
			t.Errorf("%v, or %v, has memory of a list that was cleared", lines, again)
		}
		clear(lines[0].Boxes[:cap(lines[0].Boxes)])
		if !slices.Equal(lines[1].Boxes, want[1].Boxes) {
			t.Errorf("%v has memory of another line's", lines[1])
		}
		clear(lines[:cap(lines)])
		if !sameLines(first, want) || !slices.Equal(whole, before) || !slices.Equal(all, []int{3, 7, 7}) {
			t.Errorf("an earlier answer is %v, the items %v, the breaks %v", first, whole, all)
		}
		Lines(whole, []int{7, 15}, 99)
		Lines(nil, nil, 0)
	}
	clear(whole)
	clear(all)
	if !sameLines(first, want) {
		t.Errorf("an answer became %v with its arguments", first)
	}
}

// R4: Words of one line alone has memory of its own too.
func TestOneLine(t *testing.T) {
	lines := []api.Line{{Boxes: placed([4]int64{1, 2, 3, 4})}}
	Words(lines)[0].Word = 9
	if lines[0].Boxes[0].Word != 1 {
		t.Error("Words answers the memory of its line")
	}
}

// R5: lists that are nil and those that are empty are the same.
func TestNilOrEmpty(t *testing.T) {
	for _, l := range [][]api.Item{nil, {}} {
		for _, breaks := range [][]int{nil, {}, {0}, {-1}} {
			if got, f := Lines(l, breaks, 0); len(got) != 0 || f != bad(0) {
				t.Errorf("%v at %v: %v, %v", l, breaks, got, f)
			}
		}
	}
	for _, breaks := range [][]int{nil, {}} {
		if got, f := Lines(listed(forced()), breaks, 0); len(got) != 0 || f != bad(0) {
			t.Errorf("at %v: %v, %v", breaks, got, f)
		}
	}
	for _, l := range [][]api.Line{nil, {}, {{}}, {{Boxes: []api.Placed{}}, {}}} {
		if got := Words(l); len(got) != 0 {
			t.Errorf("%v: %v", l, got)
		}
	}
}
