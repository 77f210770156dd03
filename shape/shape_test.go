package shape

import (
	"math"
	"math/big"
	"slices"
	"testing"

	"variorum/api"
)

const (
	widest = api.MaxScaled
	soft   = api.SoftHyphen
)

// table has a letter of each width from 1 to 6, f and i that are joined, and
// two letters with a kern between them. Nothing but a ligature leads to x, which
// is no letter of its own.
func table() api.Metric {
	return api.Metric{
		Space:  api.Glue{Width: 3},
		Hyphen: '-',
		Chars: []api.Char{
			{Code: '-', Width: 1, Height: 10, Depth: 1}, {Code: 'a', Width: 2, Height: 20}, {Code: 'b', Width: 3, Height: 30, Depth: 3},
			{Code: 'f', Width: 4, Height: 40, Depth: 9}, {Code: 'i', Width: 5, Height: 5}, {Code: 0xe4, Width: 6, Height: 25},
			{Code: 0xfb00, Width: 7, Height: 44, Depth: 2}, {Code: 0xfb03, Width: 11, Height: 33},
		},
		Kerns: []api.Kern{{A: '-', B: '-', Width: 9}, {A: 'a', B: 'b', Width: -1}, {A: 'a', B: 'f', Width: 50}, {A: 'b', B: 'a', Width: 8}, {A: 'f', B: 'f', Width: 500}, {A: 0xfb00, B: 'b', Width: -7}},
		Ligs:  []api.Lig{{A: 'a', B: 0xe4, To: 'x'}, {A: 'f', B: 'f', To: 0xfb00}, {A: 'i', B: 'i', To: 'i'}, {A: 0xfb00, B: 'i', To: 0xfb03}},
	}
}

// odd is not valid in many ways: lengths that are negative or do not fit,
// letters twice, in no order, and such as are none.
func odd() api.Metric {
	return api.Metric{
		Space: api.Glue{Width: -1, Order: 7}, Hyphen: -1,
		Chars: []api.Char{
			{Code: 'b', Width: -3, Height: -30, Depth: -1}, {Code: 'a', Width: 2, Height: math.MaxInt64, Depth: math.MinInt64}, {Code: 'a', Width: 200},
			{Code: -1, Width: 7, Height: -5, Depth: 5}, {Code: 'w', Width: widest, Height: 1}, {Code: 'v', Width: widest + 1, Depth: 1}, {Code: 'u', Width: math.MinInt64}, {Code: 0xd800},
		},
		Kerns: []api.Kern{{A: 'w', B: 'a', Width: -2}, {A: 'w', B: 'a', Width: 0}, {A: 'b', B: 'a', Width: math.MaxInt64}, {A: -1, B: 'a', Width: -widest}, {A: 'y', B: 'b', Width: 60}, {A: 'a', B: 'y', Width: 70}, {A: 'w', B: 'w', Width: -widest}, {A: 'b', B: 0xd800, Width: widest + 1}},
		Ligs:  []api.Lig{{A: 'b', B: 'b', To: 'a'}, {A: 'b', B: 'b', To: 'w'}, {A: 'v', B: 'a', To: 'a'}, {A: 'a', B: 'v', To: 'y'}, {A: 'y', B: 'y', To: 'a'}, {A: 'y', B: 'v', To: -1}, {A: -1, B: -1, To: math.MinInt32}},
	}
}

func copyOf(m api.Metric) api.Metric {
	m.Chars, m.Kerns, m.Ligs = slices.Clone(m.Chars), slices.Clone(m.Kerns), slices.Clone(m.Ligs)
	return m
}

func same(a, b api.Metric) bool {
	return a.Space == b.Space && a.Hyphen == b.Hyphen && slices.Equal(a.Chars, b.Chars) && slices.Equal(a.Kerns, b.Kerns) && slices.Equal(a.Ligs, b.Ligs)
}

func wide() api.Fault              { return api.Fault{Code: api.ErrShapeWide} }
func missing(at int) api.Fault     { return api.Fault{Code: api.ErrShapeLetter, At: at} }
func at(c rune, x int64) api.Glyph { return api.Glyph{Code: c, X: x} }

// The errors and limits have the document's numbers.
func TestNumbers(t *testing.T) {
	if api.ErrUtf != 40 || api.ErrShapeLetter != 80 || api.ErrShapeWide != 81 || api.ErrShapeEmpty != 82 || api.MaxWord != 200 || api.SoftHyphen != 173 {
		t.Error("the errors or the limits are others than the document's")
	}
}

// P8.1: letters alone, kerns, ligatures, and what follows on a ligature.
func TestLetters(t *testing.T) {
	for _, x := range []struct {
		m      api.Metric
		l      []rune
		glyphs []api.Glyph
		width  int64
	}{
		{table(), nil, nil, 0},
		{table(), []rune("a"), []api.Glyph{at('a', 0)}, 2},
		{table(), []rune("ab"), []api.Glyph{at('a', 0), at('b', 1)}, 4}, // the chapter's example
		{table(), []rune("ba"), []api.Glyph{at('b', 0), at('a', 11)}, 13},
		{table(), []rune("aa"), []api.Glyph{at('a', 0), at('a', 2)}, 4},
		{table(), []rune("bab-"), []api.Glyph{at('b', 0), at('a', 11), at('b', 12), at('-', 15)}, 16},
		{table(), []rune("ff"), []api.Glyph{at(0xfb00, 0)}, 7},
		{table(), []rune("fff"), []api.Glyph{at(0xfb00, 0), at('f', 7)}, 11},
		{table(), []rune("ffff"), []api.Glyph{at(0xfb00, 0), at(0xfb00, 7)}, 14},
		{table(), []rune("fffi"), []api.Glyph{at(0xfb00, 0), at('f', 7), at('i', 11)}, 16}, // from left to right, not the longest one
		{table(), []rune("ffi"), []api.Glyph{at(0xfb03, 0)}, 11},
		{table(), []rune("fi"), []api.Glyph{at('f', 0), at('i', 4)}, 9},
		{table(), []rune("affb"), []api.Glyph{at('a', 0), at(0xfb00, 2), at('b', 2)}, 5}, // the kern of a and f is not asked
		{table(), []rune("iiiii"), []api.Glyph{at('i', 0)}, 5},
		{table(), []rune{0xfb00, 'i'}, []api.Glyph{at(0xfb03, 0)}, 11},
		{table(), []rune("aäb"), []api.Glyph{at('x', 0), at('b', 0)}, 3}, // a ligature without a letter of its own
		{table(), []rune("baä"), []api.Glyph{at('b', 0), at('x', 3)}, 3},
		{odd(), []rune("bbb"), []api.Glyph{at('a', 0), at('b', 2)}, -1},
		{odd(), []rune("bb"), []api.Glyph{at('a', 0)}, 2},
		{odd(), []rune("b"), []api.Glyph{at('b', 0)}, -3},
		{odd(), []rune("ab"), []api.Glyph{at('a', 0), at('b', 2)}, -1},
		{odd(), []rune("w"), []api.Glyph{at('w', 0)}, widest},
		{odd(), []rune("wa"), []api.Glyph{at('w', 0), at('a', widest-2)}, widest},
		{odd(), []rune("wb"), []api.Glyph{at('w', 0), at('b', widest)}, widest - 3},
		{odd(), []rune("ww"), []api.Glyph{at('w', 0), at('w', 0)}, widest},
		{odd(), []rune("va"), []api.Glyph{at('a', 0)}, 2}, // the letter that does not fit is not there
		{odd(), []rune("av"), []api.Glyph{at('y', 0)}, 0},
		{odd(), []rune("avb"), []api.Glyph{at('y', 0), at('b', 60)}, 57},
		{odd(), []rune("aav"), []api.Glyph{at('a', 0), at('y', 72)}, 72},
		{odd(), []rune("avv"), []api.Glyph{at(-1, 0)}, 7},
		{odd(), []rune{-1, -1}, []api.Glyph{at(math.MinInt32, 0)}, 0},
		{odd(), []rune{0xd800, -1}, []api.Glyph{at(0xd800, 0), at(-1, 0)}, 7},
	} {
		glyphs, width, f := Letters(x.m, x.l)
		if !slices.Equal(glyphs, x.glyphs) || width != x.width || f != (api.Fault{}) {
			t.Errorf("Letters(%q) = %v, %d, %v, not %v, %d", string(x.l), glyphs, width, f, x.glyphs, x.width)
		}
	}
}

// P8.1, R2: the faults, each alone, at its bound and ahead of those that are
// checked behind it.
func TestLettersRefuse(t *testing.T) {
	many := func(s string, n int) []rune { return slices.Repeat([]rune(s), n) }
	for _, x := range []struct {
		m api.Metric
		l []rune
		f api.Fault
	}{
		{api.Metric{}, []rune("a"), missing(0)},
		{table(), []rune("x"), missing(0)}, // a ligature without a letter of its own
		{table(), []rune("abx"), missing(2)},
		{table(), []rune("axx"), missing(1)},
		{table(), []rune{'a', soft, 'b'}, missing(1)},
		{table(), []rune{'a', -1}, missing(1)},
		{table(), []rune{0xd800}, missing(0)},
		{table(), []rune{math.MaxInt32, 'a'}, missing(0)},
		{table(), append(many("a", 200), 'x'), missing(200)},
		{table(), append(many("a", 300), 'x', 'a', 'x'), missing(300)},
		{odd(), []rune("uvx"), missing(2)},
		{odd(), append(many("u", 201), 0), missing(201)},
		{table(), many("a", 201), wide()},
		{table(), many("i", 201), wide()}, // though one letter is left
		{table(), many("a", 5000), wide()},
		{odd(), []rune("v"), wide()},
		{odd(), []rune("u"), wide()},
		{odd(), []rune("bv"), wide()},        // the sum would fit, the width does not
		{odd(), []rune{'b', 0xd800}, wide()}, // the sum would fit, the kern does not
		{odd(), []rune("ba"), wide()},
		{odd(), []rune{-1, 'b', 'a'}, wide()},
		{odd(), []rune("waa"), wide()},
		{odd(), []rune("aw"), wide()},
		{odd(), []rune("bbw"), wide()},
		{odd(), []rune("wwwwa"), api.Fault{}},
		{odd(), []rune("wbaa"), wide()},
		{table(), many("a", 200), api.Fault{}},
		{table(), many("i", 200), api.Fault{}},
		{table(), many("ffi", 66), api.Fault{}},
	} {
		glyphs, width, f := Letters(x.m, x.l)
		if f != x.f || f != (api.Fault{}) && (len(glyphs) != 0 || width != 0) {
			t.Errorf("Letters(%q) = %v, %d, %v, not %v", string(x.l), glyphs, width, f, x.f)
		}
	}
}

// P8.1: the greatest and the least sums that fit, and the next ones.
func TestSums(t *testing.T) {
	for _, n := range []int64{0, 1, 2, widest / 2, widest - 1, widest} {
		for over := int64(-2); over <= 2; over++ {
			for _, sign := range []int64{1, -1} {
				a, b := sign*n, sign*(widest-n+over)
				letters := api.Metric{Chars: []api.Char{{Code: 'a', Width: a}, {Code: 'b', Width: b}}}
				sumHolds(t, letters, "ab", a+b)
				kern := api.Metric{Chars: []api.Char{{Code: 'a', Width: a}, {Code: 'b'}}, Kerns: []api.Kern{{A: 'a', B: 'b', Width: b}}}
				sumHolds(t, kern, "ab", a+b)
			}
		}
	}
}

func sumHolds(t *testing.T, m api.Metric, s string, sum int64) {
	t.Helper()
	_, width, f := Letters(m, []rune(s))
	glyphs, all, want := lettersOf(m, []rune(s))
	if f != want || f == (api.Fault{}) && (width != sum || all != sum || len(glyphs) != 2) {
		t.Errorf("%v: %d, %v, not %d, %v", m, width, f, sum, want)
	}
}

// The chapter's words by another way: from the end on, and in exact numbers.

func find(m api.Metric, c rune) (api.Char, bool) {
	i := slices.IndexFunc(m.Chars, func(x api.Char) bool { return x.Code == c })
	if i < 0 {
		return api.Char{}, false
	}
	return m.Chars[i], true
}

func joinedOf(m api.Metric, l []rune) []rune {
	if len(l) == 0 {
		return nil
	}
	ahead, c := joinedOf(m, l[:len(l)-1]), l[len(l)-1]
	if len(ahead) > 0 {
		for _, x := range m.Ligs {
			if x.A == ahead[len(ahead)-1] && x.B == c {
				return append(ahead[:len(ahead)-1], x.To)
			}
		}
	}
	return append(ahead, c)
}

func kernOf(m api.Metric, a, b rune) int64 {
	for _, k := range m.Kerns {
		if k.A == a && k.B == b {
			return k.Width
		}
	}
	return 0
}

// sumOf answers false if a part of the sum, or the sum up to one of them, does
// not fit.
func sumOf(parts []int64) (int64, bool) {
	bound := big.NewInt(widest)
	sum := new(big.Int)
	for _, n := range parts {
		part := big.NewInt(n)
		sum.Add(sum, part)
		if part.CmpAbs(bound) > 0 || sum.CmpAbs(bound) > 0 {
			return 0, false
		}
	}
	return sum.Int64(), true
}

func lettersOf(m api.Metric, l []rune) ([]api.Glyph, int64, api.Fault) {
	if i := slices.IndexFunc(l, func(c rune) bool { _, ok := find(m, c); return !ok }); i >= 0 {
		return nil, 0, missing(i)
	}
	var glyphs []api.Glyph
	var parts []int64
	joined := joinedOf(m, l)
	for i, c := range joined {
		if i > 0 {
			parts = append(parts, kernOf(m, joined[i-1], c))
		}
		x, _ := sumOf(parts)
		glyphs = append(glyphs, at(c, x))
		char, _ := find(m, c)
		parts = append(parts, char.Width)
	}
	width, ok := sumOf(parts)
	if !ok || len(l) > 200 {
		return nil, 0, wide()
	}
	return glyphs, width, api.Fault{}
}

func lettersHold(t *testing.T, m api.Metric, l []rune) {
	t.Helper()
	glyphs, width, f := Letters(m, l)
	if g, w, want := lettersOf(m, l); !slices.Equal(glyphs, g) || width != w || f != want {
		t.Errorf("Letters(%q) = %v, %d, %v, not %v, %d, %v", string(l), glyphs, width, f, g, w, want)
	}
}

// grow visits all lists of up to most letters of the pool.
func grow(pool []rune, most int, visit func(l []rune)) {
	var more func(l []rune)
	more = func(l []rune) {
		visit(l)
		if len(l) < most {
			for _, c := range pool {
				more(append(slices.Clone(l), c))
			}
		}
	}
	more(nil)
}

// P8.1: all short lists of letters.
func TestShortLists(t *testing.T) {
	m := table()
	grow([]rune{'a', 'b', 'f', 'i', 0xe4, 0xfb00, 'x'}, 5, func(l []rune) { lettersHold(t, m, l) })
	m = odd()
	grow([]rune{'a', 'b', 'v', 'w', 0xd800, -1}, 5, func(l []rune) { lettersHold(t, m, l) })
	grow([]rune{'a', 'b'}, 10, func(l []rune) { lettersHold(t, m, l) })
}

// P8.1, P1: lists about the longest one that may be, out of every letter.
func TestFullLists(t *testing.T) {
	for _, m := range []api.Metric{table(), odd(), {}} {
		for _, n := range []int{198, 199, 200, 201, 202, 400} {
			for k, c := range m.Chars {
				lettersHold(t, m, slices.Repeat([]rune{c.Code}, n))
				var mixed []rune
				for i := range n {
					mixed = append(mixed, m.Chars[(i*i+k)%len(m.Chars)].Code)
				}
				lettersHold(t, m, mixed)
			}
		}
	}
}

// P1, R1: lists and tables of a great length end in good time.
func TestLong(t *testing.T) {
	const many = 1 << 20
	m := table()
	long := slices.Repeat([]rune("abff"), many/4)
	if l, n, f := Letters(m, long); len(l) != 0 || n != 0 || f != wide() {
		t.Errorf("%d letters, %d, %v", len(l), n, f)
	}
	if l, n, f := Letters(m, append(long, 'x')); len(l) != 0 || n != 0 || f != missing(many) {
		t.Errorf("%d letters, %d, %v", len(l), n, f)
	}
	m.Chars = append(slices.Repeat(m.Chars[:1], many), m.Chars...)
	m.Kerns = append(slices.Repeat(m.Kerns[:1], many), m.Kerns...)
	m.Ligs = append(slices.Repeat(m.Ligs[:1], many), m.Ligs...)
	if l, n, f := Letters(m, []rune("abffi-")); len(l) != 4 || n != 16 || f != (api.Fault{}) {
		t.Errorf("%v, %d, %v", l, n, f)
	}
}

// R3, R4: an answer hangs on its own call alone; what is handed in stays as it
// is, and so does what stands behind it; what is done to an answer is seen
// nowhere.
func TestNothingKeptOrShared(t *testing.T) {
	for range 3 {
		for _, m := range []api.Metric{table(), odd(), {}} {
			before := copyOf(m)
			behind := []rune("ffiab")
			Letters(m, behind[:3])
			Word(m, "ff\u00adiab")
			Hyphen(m)
			if !same(m, before) || string(behind) != "ffiab" {
				t.Errorf("the table became %v, the letters %q", m, string(behind))
			}
		}
		m, l := table(), []rune("affb")
		one, _, _ := Letters(m, l)
		other, _, _ := Letters(m, l)
		clear(one)
		_ = append(one[:0], at('z', 9))
		if !slices.Equal(other, []api.Glyph{at('a', 0), at(0xfb00, 2), at('b', 2)}) || string(l) != "affb" || !same(m, table()) {
			t.Errorf("other letters became %v", other)
		}
	}
}

// R5: lists that are nil and those that are empty are the same.
func TestNilOrEmpty(t *testing.T) {
	for _, m := range []api.Metric{{}, table(), {Chars: []api.Char{}, Kerns: []api.Kern{}, Ligs: []api.Lig{}}} {
		for _, l := range [][]rune{nil, {}} {
			if glyphs, width, f := Letters(m, l); len(glyphs) != 0 || width != 0 || f != (api.Fault{}) {
				t.Errorf("Letters = %v, %d, %v", glyphs, width, f)
			}
		}
	}
	m := api.Metric{Hyphen: 'a', Chars: []api.Char{{Code: 'a', Width: 4}}, Kerns: []api.Kern{}, Ligs: []api.Lig{}}
	if glyphs, width, f := Letters(m, []rune("aa")); len(glyphs) != 2 || width != 8 || f != (api.Fault{}) {
		t.Errorf("Letters = %v, %d, %v", glyphs, width, f)
	}
}
