package lineno

import (
	"math"
	"slices"
	"strconv"
	"strings"
	"testing"

	"variorum/api"
)

// each calls f with every list of up to most elements; f must not keep it.
func each[E any](elements []E, most int, f func([]E)) {
	list := make([]E, 0, most)
	var grow func()
	grow = func() {
		f(list)
		if len(list) == most {
			return
		}
		for _, e := range elements {
			list = append(list, e)
			grow()
			list = list[:len(list)-1]
		}
	}
	grow()
}

// rows are those that a text tells: p a plain row, s one that is a sub-line,
// x one that is left out, k one that stays, 1 to 9 one that is set; a dot
// ahead of it begins another paragraph, a colon another chunk, a slash another
// page. Marks of more than one kind stand together: sk is one row of both.
func rows(text string) []api.Row {
	var list []api.Row
	var row api.Row
	for _, word := range strings.Fields(text) {
		row = api.Row{Page: row.Page, Chunk: row.Chunk, Para: row.Para}
		for _, mark := range word {
			switch mark {
			case 's':
				row.Sub = true
			case 'x':
				row.Skip = true
			case 'k':
				row.Lock = true
			case '.':
				row.Para++
			case ':':
				row.Chunk++
			case '/':
				row.Page++
			case '-':
				row.Set = -1
			case 'p':
			default:
				row.Set = int(mark - '0')
			}
		}
		list = append(list, row)
	}
	return list
}

// nums are the numbers that a text tells: 3 for a line, 3.2 for a sub-line, -
// for none.
func nums(text string) []api.Num {
	var list []api.Num
	for _, word := range strings.Fields(text) {
		line, sub, _ := strings.Cut(word, ".")
		var number api.Num
		if word != "-" {
			number.Line, _ = strconv.Atoi(line)
			number.Sub, _ = strconv.Atoi(sub)
		}
		list = append(list, number)
	}
	return list
}

func numbers(t *testing.T, l []api.Row, by int, want []api.Num) {
	t.Helper()
	if got := Number(l, by); !slices.Equal(got, want) {
		t.Errorf("Number(%.300v, %d) = %.300v, not %.300v", l, by, got, want)
	}
}

func units(t *testing.T, r api.Row, by int, want [3]int) {
	t.Helper()
	if got := Unit(r, by); got != want {
		t.Errorf("Unit(%v, %d) = %v, not %v", r, by, got, want)
	}
}

// noWays are numbers by which no lines are numbered.
var noWays = []int{-1, 3, 4, -2, math.MinInt, math.MaxInt, 1 << 32, 1<<32 + 1, 1<<32 + 2, -1 << 32, 256, 257, 258}

// P16.1: units, worked out by hand.
func TestUnit(t *testing.T) {
	row := api.Row{Page: 5, Chunk: 6, Para: 7, Set: 8, Sub: true, Skip: true, Lock: true}
	least := api.Row{Page: math.MinInt, Chunk: -1, Para: math.MaxInt}
	units(t, row, 0, [3]int{5, 0, 0})
	units(t, row, 1, [3]int{6, 0, 0})
	units(t, row, 2, [3]int{6, 7, 1})
	units(t, least, 0, [3]int{math.MinInt, 0, 0})
	units(t, least, 1, [3]int{-1, 0, 0})
	units(t, least, 2, [3]int{-1, math.MaxInt, 1})
	units(t, api.Row{}, 0, [3]int{})
	units(t, api.Row{}, 1, [3]int{})
	units(t, api.Row{}, 2, [3]int{0, 0, 1})
	for _, by := range noWays {
		units(t, row, by, [3]int{})
		units(t, least, by, [3]int{})
	}
	if api.ByPage != 0 || api.ByChunk != 1 || api.ByPara != 2 {
		t.Errorf("lines are numbered by %d, %d, %d", api.ByPage, api.ByChunk, api.ByPara)
	}
}

// P16.1: numbers, worked out by hand.
func TestNumber(t *testing.T) {
	for text, want := range map[string][]api.Num{
		"":                 nil,
		"p":                nums("1"),
		"p p p":            nums("1 2 3"),
		"p s s p x p":      nums("1 1.1 1.2 2 - 3"),
		"s":                nums("1.1"),
		"s s p":            nums("1.1 1.2 2"),
		"k":                nums("1"),
		"k p":              nums("1 2"),
		"k s k p":          nums("1 1.1 1.1 2"),
		"s k k s":          nums("1.1 1.1 1.1 1.2"),
		"p k k p":          nums("1 1 1 2"),
		"x":                nums("-"),
		"x x":              nums("- -"),
		"x p":              nums("- 1"),
		"x s":              nums("- 1.1"),
		"x k":              nums("- 1"),
		"p s x s x k x p":  nums("1 1.1 - 1.2 - 1.2 - 2"),
		"5":                nums("5"),
		"5 p s 2 p":        nums("5 6 6.1 2 3"),
		"s 1 1 s":          nums("1.1 1 1 1.1"),
		"3 s s 3":          nums("3 3.1 3.2 3"),
		"-":                nums("1"),
		"p - p":            nums("1 2 3"),
		"p -k -s -":        nums("1 1 1.1 2"),
		"p 7x p":           nums("1 - 2"),
		"p 7k 8s 9ks":      nums("1 7 8 9"),
		"p ks s ks p":      nums("1 1 1.1 1.1 2"),
		"ks":               nums("1"),
		"p xs xk xks 9xks": nums("1 - - - -"),
	} {
		for by := -1; by < 4; by++ {
			numbers(t, rows(text), by, want)
		}
	}
}

// P16.1: numbers begin anew with a unit, worked out by hand.
func TestReset(t *testing.T) {
	for text, want := range map[string][4][]api.Num{
		"p p .p p": {
			nums("1 2 3 4"), nums("1 2 3 4"), nums("1 2 1 2"),
		},
		"p s :s k": {
			nums("1 1.1 1.2 1.2"), nums("1 1.1 1.1 1.1"), nums("1 1.1 1.1 1.1"),
		},
		"p p /k s": {
			nums("1 2 1 1.1"), nums("1 2 2 2.1"), nums("1 2 2 2.1"),
		},
		// A row that is left out begins a unit, too, and ends one.
		"p :x p": {
			nums("1 - 2"), nums("1 - 1"), nums("1 - 1"),
		},
		"4 .x .k p": {
			nums("4 - 4 5"), nums("4 - 4 5"), nums("4 - 1 2"),
		},
		"4 :3 s .s": {
			nums("4 3 3.1 3.2"), nums("4 3 3.1 3.2"), nums("4 3 3.1 1.1"),
		},
	} {
		for by := range 3 {
			numbers(t, rows(text), by, want[by])
		}
		// By nothing, all rows are of one unit: numbers go on.
		for _, by := range noWays {
			one := rows(text)
			for i := range one {
				one[i].Page, one[i].Chunk, one[i].Para = 0, 0, 0
			}
			numbers(t, rows(text), by, Number(one, 0))
		}
	}
}

// P16.1: a unit that comes again begins anew, and the first unit is as good as
// any other one.
func TestReturn(t *testing.T) {
	there := []api.Row{{Page: 1, Chunk: 1, Para: 1}, {Page: 1, Chunk: 1, Para: 1}, {}, {}, {Page: 1, Chunk: 1, Para: 1}}
	for by := range 3 {
		numbers(t, there, by, nums("1 2 1 2 1"))
	}
	numbers(t, there, 3, nums("1 2 3 4 5"))
	// Paragraphs of unlike chunks are unlike, and what is not the unit's is nothing.
	apart := []api.Row{{Chunk: 1, Para: 2}, {Chunk: 2, Para: 2}, {Chunk: 2, Para: 1}, {Page: 9, Chunk: 2, Para: 1}}
	numbers(t, apart, 2, nums("1 1 1 2"))
	numbers(t, apart, 1, nums("1 1 2 3"))
	numbers(t, apart, 0, nums("1 2 3 1"))
	negative := []api.Row{{Page: -1}, {Page: -1}, {Page: math.MinInt}, {Page: math.MaxInt}, {Page: math.MaxInt}}
	numbers(t, negative, 0, nums("1 2 1 1 2"))
}

// P16.1: numbers wrap around, and a line that is less than 1 becomes 1 where
// it stays.
func TestWrap(t *testing.T) {
	set := api.Row{Set: math.MaxInt}
	plain, sub, lock := api.Row{}, api.Row{Sub: true}, api.Row{Lock: true}
	numbers(t, []api.Row{set, plain, plain}, 1, []api.Num{{Line: math.MaxInt}, {Line: math.MinInt}, {Line: math.MinInt + 1}})
	numbers(t, []api.Row{set, sub, plain, sub}, 1, []api.Num{{Line: math.MaxInt}, {Line: math.MaxInt, Sub: 1}, {Line: math.MinInt}, {Line: 1, Sub: 1}})
	numbers(t, []api.Row{set, plain, lock, plain}, 1, []api.Num{{Line: math.MaxInt}, {Line: math.MinInt}, {Line: 1}, {Line: 2}})
	numbers(t, []api.Row{set, plain, {Set: 1}, plain}, 1, []api.Num{{Line: math.MaxInt}, {Line: math.MinInt}, {Line: 1}, {Line: 2}})
	numbers(t, []api.Row{{Set: math.MinInt}, {Set: -1}, {Set: math.MinInt, Lock: true}}, 1, nums("1 2 2"))
}

// oracle is a row's number taken another way: from the row ahead of it that
// counts, in its unit, or from none.
func oracle(l []api.Row, by, at int) api.Num {
	if l[at].Skip {
		return api.Num{}
	}
	var ahead api.Num
	for i := at - 1; i >= 0 && Unit(l[i], by) == Unit(l[at], by); i-- {
		if !l[i].Skip {
			ahead = oracle(l, by, i)
			break
		}
	}
	switch row := l[at]; {
	case row.Set > 0:
		return api.Num{Line: row.Set, Sub: 0}
	case row.Lock && ahead.Line < 1:
		return api.Num{Line: 1, Sub: ahead.Sub}
	case row.Lock:
		return ahead
	case row.Sub && ahead.Line < 1:
		return api.Num{Line: 1, Sub: ahead.Sub + 1}
	case row.Sub:
		return api.Num{Line: ahead.Line, Sub: ahead.Sub + 1}
	}
	return api.Num{Line: ahead.Line + 1, Sub: 0}
}

func held(t *testing.T, l []api.Row) {
	t.Helper()
	for by := range 4 {
		want := make([]api.Num, len(l))
		for at := range l {
			want[at] = oracle(l, by, at)
		}
		numbers(t, l, by, want)
	}
}

// P16.1: all short lists of rows of all marks against the chapter's words
// taken another way.
func TestAllRows(t *testing.T) {
	var marks []api.Row
	for _, set := range []int{0, 2, -1, math.MaxInt} {
		for bits := range 8 {
			marks = append(marks, api.Row{Set: set, Sub: bits&1 > 0, Skip: bits&2 > 0, Lock: bits&4 > 0})
		}
	}
	each(marks, 3, func(l []api.Row) { held(t, l) })
	for page := range 2 {
		for chunk := range 2 {
			for para := range 2 {
				marks = append(marks, api.Row{Page: page, Chunk: chunk, Para: para}, api.Row{Page: page, Chunk: chunk, Para: para, Skip: true})
			}
		}
	}
	each(marks[32:], 4, func(l []api.Row) { held(t, l) })
	plain := []api.Row{{}, {Sub: true}, {Skip: true}, {Lock: true}, {Set: 1}, {Chunk: 1}, {Chunk: 1, Sub: true}, {Chunk: 1, Lock: true, Para: 1}}
	each(plain, 5, func(l []api.Row) { held(t, l) })
}

// P16.3: a unit's numbers hang on its own rows alone, and those of plain rows
// are 1, 2, 3 and so on.
func TestUnits(t *testing.T) {
	marks := []api.Row{{}, {Sub: true}, {Skip: true}, {Lock: true}, {Set: 3}}
	each(marks, 4, func(l []api.Row) {
		alone := Number(l, 1)
		for split := range len(l) + 1 {
			both := slices.Clone(l)
			for i := split; i < len(both); i++ {
				both[i].Chunk = 1
			}
			numbers(t, both, 1, slices.Concat(Number(l[:split], 1), Number(l[split:], 1)))
			numbers(t, both, 2, slices.Concat(Number(l[:split], 1), Number(l[split:], 1)))
			numbers(t, both, 0, alone)
		}
	})
	for many := range 50 {
		want := make([]api.Num, many)
		for i := range want {
			want[i] = api.Num{Line: i + 1}
		}
		for by := -1; by < 4; by++ {
			numbers(t, make([]api.Row, many), by, want)
		}
	}
}
