package lineno

import (
	"math"
	"slices"
	"testing"

	"variorum/api"
)

func margins(t *testing.T, l []api.Num, first, step int, want []bool) {
	t.Helper()
	if got := Margin(l, first, step); !slices.Equal(got, want) {
		t.Errorf("Margin(%.300v, %d, %d) = %.300v, not %.300v", l, first, step, got, want)
	}
}

// lines are the numbers of lines without sub-lines.
func lines(list ...int) []api.Num {
	numbers := make([]api.Num, len(list))
	for i, line := range list {
		numbers[i].Line = line
	}
	return numbers
}

// at are so many results, of which those at these indices are true.
func at(many int, indices ...int) []bool {
	all := make([]bool, many)
	for _, i := range indices {
		all[i] = true
	}
	return all
}

// P16.2: numbers at the margin, worked out by hand.
func TestMargin(t *testing.T) {
	ten := lines(1, 2, 3, 4, 5, 6, 7, 8, 9, 10)
	margins(t, ten, 1, 1, at(10, 0, 1, 2, 3, 4, 5, 6, 7, 8, 9))
	margins(t, ten, 1, 5, at(10, 0, 5))
	margins(t, ten, 5, 5, at(10, 4, 9))
	margins(t, ten, 5, 1, at(10, 4, 5, 6, 7, 8, 9))
	margins(t, ten, 3, 4, at(10, 2, 6))
	margins(t, ten, 0, 5, at(10, 4, 9))
	margins(t, ten, -1, 5, at(10, 3, 8))
	margins(t, ten, -10, 10, at(10, 9))
	margins(t, ten, 10, 1, at(10, 9))
	margins(t, ten, 11, 1, at(10))
	margins(t, ten, 10, 100, at(10, 9))
	margins(t, ten, -3, 7, at(10, 3))
	// What is no line, or a sub-line.
	margins(t, lines(0, -1, -5, math.MinInt, 1), -5, 1, at(5, 4))
	margins(t, lines(0), 0, 1, at(1))
	margins(t, nums("1 1.1 1.2 2 2.1 3.-1 3"), 1, 1, at(7, 0, 3, 6))
	margins(t, []api.Num{{Line: 0, Sub: 1}, {Line: 5, Sub: 1}, {Line: 5, Sub: math.MinInt}}, 1, 1, at(3))
	// What differs from the one ahead.
	margins(t, lines(1, 1, 1, 2, 2, 1, 1), 1, 1, at(7, 0, 3, 5))
	margins(t, nums("5 5.1 5 5 - 5"), 5, 5, at(6, 0, 2, 5))
	margins(t, lines(5, 0, 5, -5, 5), 5, 5, at(5, 0, 2, 4))
	margins(t, nums("5.1 5"), 5, 5, at(2, 1))
}

// P16.2: a step that is less than 1 prints none.
func TestNoStep(t *testing.T) {
	for _, step := range []int{0, -1, -2, -5, math.MinInt, math.MinInt + 1} {
		for _, first := range []int{0, 1, -1, 5, math.MinInt, math.MaxInt} {
			margins(t, lines(1, 2, 3, 4, 5, 5, 6), first, step, at(7))
			margins(t, lines(first), first, step, at(1))
			margins(t, nil, first, step, nil)
		}
	}
}

// P16.2: the difference wraps around.
func TestMarginWrap(t *testing.T) {
	const most, least = math.MaxInt, math.MinInt
	margins(t, lines(1, most), 1, most, at(2, 0))
	margins(t, lines(1, most), 1, most-1, at(2, 0, 1))
	margins(t, lines(1, most), most, 1, at(2, 1))
	margins(t, lines(most), most, most, at(1, 0))
	// 1 - MinInt and 2 - (MinInt+1) are MinInt + 1, and that is -MaxInt.
	margins(t, lines(1, 2, 3, 4), least, most, at(4, 0))
	margins(t, lines(1, 2, 3, 4), least+1, most, at(4, 1))
	// MaxInt - MinInt is -1, and MaxInt - (MinInt+1) is -2.
	margins(t, lines(most), least, 2, at(1))
	margins(t, lines(most), least, 1, at(1, 0))
	margins(t, lines(most), least+1, 2, at(1, 0))
	// MinInt + k is a multiple of 3 for k of 2, 5 and so on: 2^63 leaves 2.
	margins(t, lines(1, 2, 3, 4, 5, 6), least, 3, at(6, 1, 4))
	margins(t, lines(1, 2, 3, 4, 5, 6, 7, 8), least, 4, at(8, 3, 7))
	// 2^63 leaves 3 of 5: -2^63 + k is a multiple for k of 3, 8 and so on.
	margins(t, lines(1, 2, 3, 4, 5, 6, 7, 8), least, 5, at(8, 2, 7))
}

// P16.2: all short lists of numbers against the chapter's words taken another
// way, as far as nothing wraps around.
func TestAllMargins(t *testing.T) {
	numbers := nums("- -1 1 2 2.1 3 4")
	each(numbers, 4, func(l []api.Num) {
		for first := -3; first < 6; first++ {
			for step := -1; step < 5; step++ {
				wanted := map[int]int{}
				for line := first; step > 0 && line < 10; line += step {
					wanted[line]++
				}
				want := make([]bool, len(l))
				for i, number := range l {
					fresh := i == 0 || l[i-1].Line != number.Line || l[i-1].Sub != number.Sub
					want[i] = fresh && number.Line > 0 && number.Sub == 0 && wanted[number.Line] > 0
				}
				margins(t, l, first, step, want)
			}
		}
	})
}
