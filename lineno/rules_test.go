package lineno

import (
	"math"
	"slices"
	"testing"

	"variorum/api"
)

// R3: what a call answers does not hang on earlier ones.
func TestNoState(t *testing.T) {
	for range 3 {
		numbers(t, rows("p s .p"), 2, nums("1 1.1 1"))
		numbers(t, rows("p s .p"), 1, nums("1 1.1 2"))
		numbers(t, rows("k"), 0, nums("1"))
		margins(t, lines(1, 2), 1, 1, at(2, 0, 1))
		margins(t, lines(2, 2), 1, 1, at(2, 0))
		margins(t, lines(2), 1, 0, at(1))
		units(t, api.Row{Page: 1, Chunk: 2, Para: 3}, 2, [3]int{2, 3, 1})
		units(t, api.Row{Page: 1, Chunk: 2, Para: 3}, 9, [3]int{})
	}
}

// R4: arguments stay as they are, also what lies behind them.
func TestArguments(t *testing.T) {
	list := rows("p s x k 9 - .p :s /k 9xks p p")
	kept := slices.Clone(list)
	for n := range len(list) + 1 {
		for by := -1; by < 4; by++ {
			Number(list[:n], by)
		}
	}
	if !slices.Equal(list, kept) {
		t.Errorf("the rows %v are now %v", kept, list)
	}
	three := lines(1, 1, 2, 0, -1, 3)
	saved := slices.Clone(three)
	for n := range len(three) + 1 {
		for step := range 3 {
			Margin(three[:n], 1, step)
		}
	}
	if !slices.Equal(three, saved) {
		t.Errorf("the numbers %v are now %v", saved, three)
	}
}

// R4: a result is new memory.
func TestNewMemory(t *testing.T) {
	list := rows("p p x")
	one, two := Number(list, 1), Number(list, 1)
	for i := range one {
		one[i] = api.Num{Line: 99, Sub: 99}
	}
	if want := nums("1 2 -"); !slices.Equal(two, want) {
		t.Errorf("other numbers became %v", two)
	}
	for step := range 2 {
		first, second := Margin(lines(1, 2, 3), 1, step), Margin(lines(1, 2, 3), 1, step)
		kept := slices.Clone(second)
		for i := range first {
			first[i] = !first[i]
		}
		if !slices.Equal(second, kept) {
			t.Errorf("other marks became %v", second)
		}
	}
}

// R5: an empty list and none are the same.
func TestEmpty(t *testing.T) {
	for by := -1; by < 4; by++ {
		for _, l := range [][]api.Row{nil, {}, make([]api.Row, 0, 8)} {
			numbers(t, l, by, nil)
		}
		for _, l := range [][]api.Num{nil, {}, make([]api.Num, 0, 8)} {
			margins(t, l, by, by, nil)
		}
	}
}

// P1, R1: lists of a great length and extreme numbers end in good time.
func TestLong(t *testing.T) {
	const many = 1 << 20
	list := make([]api.Row, many)
	for i := range list {
		list[i].Page = i / 1000
		list[i].Para = -i
	}
	for by, last := range []int{(many-1)%1000 + 1, many, 1, many} {
		got := Number(list, by)
		if len(got) != many || got[many-1] != (api.Num{Line: last}) {
			t.Errorf("by %d there are %d numbers, the last one %v", by, len(got), got[many-1])
		}
	}
	got := Margin(Number(list, 1), 1, 1<<19)
	if len(got) != many || !got[0] || !got[1<<19] || got[1] || got[many-1] {
		t.Errorf("%d marks: %v %v %v %v", len(got), got[0], got[1<<19], got[1], got[many-1])
	}
	bounds := []int{math.MinInt, math.MinInt + 1, -1, 0, 1, math.MaxInt - 1, math.MaxInt}
	each(bounds, 3, func(l []int) {
		if len(l) < 3 {
			return
		}
		row := api.Row{Page: l[0], Chunk: l[1], Para: l[2], Set: l[0]}
		units(t, row, l[1], map[int][3]int{0: {l[0]}, 1: {l[1]}}[l[1]])
		Number([]api.Row{row, {}, row}, l[2])
		Margin([]api.Num{{Line: l[0]}, {Line: 0, Sub: l[1]}, {Line: l[1]}}, l[1], l[2])
	})
}
