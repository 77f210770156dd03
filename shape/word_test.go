package shape

import (
	"math"
	"slices"
	"strings"
	"testing"

	"variorum/api"
	"variorum/utf"
)

const (
	sh = "\u00ad" // a soft hyphen
	ae = "\u00e4" // a letter of the table, in two bytes
)

func part(text string, sizes ...int64) api.Part {
	return api.Part{Text: text, Width: sizes[0], Height: sizes[1], Depth: sizes[2]}
}

// P8.2: words of one part and of several.
func TestWord(t *testing.T) {
	for _, x := range []struct {
		m     api.Metric
		s     string
		parts []api.Part
	}{
		{table(), "a", []api.Part{part("a", 2, 20, 0)}},
		{table(), "ab", []api.Part{part("ab", 4, 30, 3)}}, // the chapter's example
		{table(), "a" + sh + "b", []api.Part{part("a", 2, 20, 0), part("b", 3, 30, 3)}},
		{table(), "ab" + sh + "ba" + sh + "-", []api.Part{part("ab", 4, 30, 3), part("ba", 13, 30, 3), part("-", 1, 10, 1)}},
		{table(), "ffi", []api.Part{part("ffi", 11, 33, 0)}}, // the height of the ligature, the text of the letters
		{table(), "f" + sh + "fi", []api.Part{part("f", 4, 40, 9), part("fi", 9, 40, 9)}},
		{table(), "ff" + sh + "i", []api.Part{part("ff", 7, 44, 2), part("i", 5, 5, 0)}},
		{table(), ae, []api.Part{part(ae, 6, 25, 0)}},
		{table(), "a" + ae, []api.Part{part("a"+ae, 0, 0, 0)}}, // a ligature without a letter of its own
		{table(), "a" + ae + "i", []api.Part{part("a"+ae+"i", 5, 5, 0)}},
		{table(), sh + "a", []api.Part{part("a", 2, 20, 0)}},
		{table(), "a" + sh, []api.Part{part("a", 2, 20, 0)}},
		{table(), sh + sh + "a" + sh + sh + sh + "b" + sh + sh, []api.Part{part("a", 2, 20, 0), part("b", 3, 30, 3)}},
		{table(), "\ufb00" + sh + "\ufb03", []api.Part{part("\ufb00", 7, 44, 2), part("\ufb03", 11, 33, 0)}},
		{odd(), "b", []api.Part{part("b", -3, 0, 0)}},
		{odd(), "a", []api.Part{part("a", 2, math.MaxInt64, 0)}},
		{odd(), "ab", []api.Part{part("ab", -1, math.MaxInt64, 0)}},
		{odd(), "avv", []api.Part{part("avv", 7, 0, 5)}},
		{odd(), "bb" + sh + "b", []api.Part{part("bb", 2, math.MaxInt64, 0), part("b", -3, 0, 0)}},
		{odd(), "w" + sh + "w" + sh + "w", []api.Part{part("w", widest, 1, 0), part("w", widest, 1, 0), part("w", widest, 1, 0)}}, // no sum of parts
	} {
		if parts, f := Word(x.m, x.s); !slices.Equal(parts, x.parts) || f != (api.Fault{}) {
			t.Errorf("Word(%q) = %v, %v, not %v", x.s, parts, f, x.parts)
		}
	}
}

// P8.2, R2: the faults, and which one of several is told.
func TestWordRefuses(t *testing.T) {
	bad := func(at int) api.Fault { return api.Fault{Code: api.ErrUtf, At: at} }
	empty := api.Fault{Code: api.ErrShapeEmpty}
	withSoft := table()
	withSoft.Chars = append(withSoft.Chars, api.Char{Code: soft, Width: 1, Height: 99})
	for _, x := range []struct {
		m api.Metric
		s string
		f api.Fault
	}{
		{table(), "", empty}, {table(), sh, empty}, {table(), sh + sh + sh, empty}, {api.Metric{}, "", empty}, {api.Metric{}, sh, empty},
		{withSoft, sh, empty},
		{table(), "x", missing(0)}, {table(), sh + "x", missing(1)}, {table(), "ax", missing(1)},
		{table(), "a" + sh + "x", missing(2)}, {table(), "ab" + sh + sh + "bax" + sh + "x", missing(6)},
		{table(), ae + ae + "x", missing(2)}, {table(), ae + sh + ae + "x", missing(3)}, // letters, not bytes
		{table(), "ffi" + sh + "ffix", missing(7)}, // letters, not joined ones
		{table(), "\U0010ffff", missing(0)}, {table(), "a\x00", missing(1)}, {table(), "a ", missing(1)},
		{table(), strings.Repeat("a", 200) + sh + "ax", missing(202)},
		{table(), strings.Repeat("a", 300) + "x", missing(300)},
		{table(), strings.Repeat("a", 201), wide()}, {table(), strings.Repeat("i", 201), wide()}, {table(), strings.Repeat(ae, 201), wide()},
		{table(), "a" + sh + strings.Repeat("a", 201), wide()},
		{table(), strings.Repeat("a", 201) + sh + "x", wide()}, // the first part that has one
		{table(), "x" + sh + strings.Repeat("a", 201), missing(0)},
		{table(), "a" + sh + "x" + sh + strings.Repeat("a", 201), missing(2)},
		{odd(), "v", wide()}, {odd(), "a" + sh + "v", wide()}, {odd(), "a" + sh + "v" + sh + "x", wide()}, {odd(), "a" + sh + "waa" + sh + "b", wide()},
		{odd(), "a" + sh + "x" + sh + "v", missing(2)}, {odd(), "a" + sh + "vx", missing(3)},
		{table(), "\xff", bad(0)}, {table(), "a\xff", bad(1)}, {table(), "x\xff", bad(1)}, {table(), sh + "\xc2", bad(2)}, {table(), ae + "x" + sh + "\xed\xa0\x80", bad(5)},
		{table(), strings.Repeat("a", 201) + "\x80", bad(201)}, {api.Metric{}, "\xc0\x80", bad(0)}, {table(), "\xad", bad(0)}, {table(), "a\xadb", bad(1)},
		{api.Metric{}, "a", missing(0)}, {api.Metric{Hyphen: 'a'}, "a", missing(0)},
		{withSoft, "x" + sh, missing(0)},
		{table(), strings.Repeat("a", 200), api.Fault{}}, {table(), strings.Repeat(ae, 200), api.Fault{}},
		{table(), strings.Repeat("a", 200) + sh + strings.Repeat("b", 200), api.Fault{}}, // each part by itself
		{table(), strings.Repeat(sh, 300) + "a", api.Fault{}},
		{withSoft, "a" + sh + "b", api.Fault{}},
	} {
		if parts, f := Word(x.m, x.s); f != x.f || (len(parts) == 0) != (f != api.Fault{}) {
			t.Errorf("Word(%.20q) = %v, %v, not %v", x.s, parts, f, x.f)
		}
	}
	if parts, f := Word(withSoft, "a"+sh+"b"); !slices.Equal(parts, []api.Part{part("a", 2, 20, 0), part("b", 3, 30, 3)}) {
		t.Errorf("a table with a soft hyphen: %v, %v", parts, f)
	}
}

// P8.2: the hyphen's box, and where there is none.
func TestHyphen(t *testing.T) {
	with := func(c rune, sizes ...int64) api.Metric {
		return api.Metric{Hyphen: c, Chars: []api.Char{{Code: 'q', Width: 9, Height: 9, Depth: 9}, {Code: c, Width: sizes[0], Height: sizes[1], Depth: sizes[2]}}}
	}
	joined := table()
	joined.Ligs = []api.Lig{{A: '-', B: '-', To: 'a'}}
	long := with('w', widest, math.MaxInt64, math.MaxInt64)
	for _, x := range []struct {
		m    api.Metric
		part api.Part
	}{
		{table(), part("-", 1, 10, 1)},
		{joined, part("-", 1, 10, 1)},
		{with(0x2010, 4, 5, 6), part("\u2010", 4, 5, 6)},
		{with(0, 4, 5, 6), part("\x00", 4, 5, 6)},
		{with(soft, 4, 5, 6), part(sh, 4, 5, 6)}, // it does not part the hyphen
		{with(0x10ffff, 0, 0, 0), part("\U0010ffff", 0, 0, 0)},
		{with('-', -4, 5, 6), part("-", -4, 5, 6)},
		{with('-', -widest, 0, 6), part("-", -widest, 0, 6)},
		{with('-', 4, -5, -6), part("-", 4, 0, 0)},
		{with(-1, 4, 5, 6), part("", 4, 5, 6)}, // not a letter
		{with(0xd800, 4, 5, 6), part("", 4, 5, 6)},
		{with(0xdfff, 4, 5, 6), part("", 4, 5, 6)},
		{with(0x110000, 4, 5, 6), part("", 4, 5, 6)},
		{with(math.MaxInt32, 4, 5, 6), part("", 4, 5, 6)},
		{odd(), part("", 7, 0, 5)},
		{long, part("w", widest, math.MaxInt64, math.MaxInt64)},
		{with('-', widest+1, 5, 6), api.Part{}}, // too wide
		{with('-', -widest-1, 5, 6), api.Part{}},
		{with('-', math.MaxInt64, 5, 6), api.Part{}},
		{with(-1, math.MinInt64, 5, 6), api.Part{}},
		{api.Metric{}, api.Part{}}, // not there
		{api.Metric{Hyphen: '-', Chars: []api.Char{{Code: 'a', Width: 1}}}, api.Part{}},
		{api.Metric{Hyphen: -1, Chars: []api.Char{{Code: 'a', Width: 1}}}, api.Part{}},
	} {
		if p := Hyphen(x.m); p != x.part {
			t.Errorf("Hyphen of %x = %v, not %v", x.m.Hyphen, p, x.part)
		}
	}
}

// wordOf is P8.2 by another way: the bytes are cut first.
func wordOf(m api.Metric, s string) ([]api.Part, api.Fault) {
	if _, f := utf.Decode(s); f.Code != api.OK {
		return nil, f
	}
	var parts []api.Part
	letters := 0
	for piece := range strings.SplitSeq(s, sh) {
		l := []rune(piece)
		if len(l) > 0 {
			glyphs, width, f := lettersOf(m, l)
			switch f.Code {
			case api.ErrShapeLetter:
				return nil, missing(letters + f.At)
			case api.ErrShapeWide:
				return nil, wide()
			}
			p := part(piece, width, 0, 0)
			for _, g := range glyphs {
				c, _ := find(m, g.Code)
				p.Height, p.Depth = max(p.Height, c.Height), max(p.Depth, c.Depth)
			}
			parts = append(parts, p)
		}
		letters += len(l) + 1
	}
	if parts == nil {
		return nil, api.Fault{Code: api.ErrShapeEmpty}
	}
	return parts, api.Fault{}
}

// wordHolds holds the answer against the chapter's words, and what follows from
// them (P8.3).
func wordHolds(t *testing.T, m api.Metric, s string) {
	t.Helper()
	parts, f := Word(m, s)
	want, fault := wordOf(m, s)
	if !slices.Equal(parts, want) || f != fault {
		t.Errorf("Word(%q) = %v, %v, not %v, %v", s, parts, f, want, fault)
	}
	if f != (api.Fault{}) {
		return
	}
	text := ""
	for _, p := range parts {
		if p.Text == "" || strings.Contains(p.Text, sh) {
			t.Errorf("Word(%q) has the part %q", s, p.Text)
		}
		text += p.Text
	}
	if text != strings.ReplaceAll(s, sh, "") {
		t.Errorf("the parts of %q are %q", s, text)
	}
}

// shortWords visits all texts of up to most of the pieces.
func shortWords(pieces []string, most int, visit func(s string)) {
	var more func(s string, left int)
	more = func(s string, left int) {
		visit(s)
		for _, p := range pieces {
			if left > 0 {
				more(s+p, left-1)
			}
		}
	}
	more("", most)
}

// P8.2, P8.3: all short words out of pieces that could be taken for one another.
func TestShortWords(t *testing.T) {
	m := table()
	shortWords([]string{"a", "f", "i", ae, sh, "x", "\xad"}, 5, func(s string) { wordHolds(t, m, s) })
	shortWords([]string{"f", "i", sh}, 8, func(s string) { wordHolds(t, m, s) })
	m = odd()
	shortWords([]string{"a", "b", "v", "w", sh, "x", "\xc2"}, 5, func(s string) { wordHolds(t, m, s) })
	m.Chars = append(m.Chars, api.Char{Code: soft, Width: 1})
	m.Ligs = append(m.Ligs, api.Lig{A: 'a', B: soft, To: 'w'}, api.Lig{A: 'b', B: 'w', To: soft})
	shortWords([]string{"a", "b", "w", sh}, 6, func(s string) { wordHolds(t, m, s) })
}

// P8.3: without kerns and ligatures, a part is as wide as its letters.
func TestWidths(t *testing.T) {
	m := table()
	m.Kerns, m.Ligs = nil, nil
	shortWords([]string{"a", "f", "i", ae, sh}, 5, func(s string) {
		parts, _ := Word(m, s)
		for _, p := range parts {
			var width int64
			for _, c := range p.Text {
				char, _ := find(m, c)
				width += char.Width
			}
			if p.Width != width {
				t.Errorf("%q of %q is %d wide, not %d", p.Text, s, p.Width, width)
			}
		}
	})
}

// P1, R1: words of a great length end in good time.
func TestLongWords(t *testing.T) {
	const many = 1 << 20
	m := table()
	for _, x := range []struct {
		s     string
		parts int
		f     api.Fault
	}{
		{strings.Repeat("a", many), 0, wide()},
		{strings.Repeat("a", many) + "x", 0, missing(many)},
		{strings.Repeat(sh, many), 0, api.Fault{Code: api.ErrShapeEmpty}},
		{strings.Repeat(sh, many) + "x", 0, missing(many)},
		{strings.Repeat("ff"+sh, many/2), many / 2, api.Fault{}},
		{strings.Repeat("a"+sh+sh, many/2) + "x", 0, missing(many / 2 * 3)},
		{strings.Repeat("a"+sh, many/2) + strings.Repeat("b", many), 0, wide()},
		{strings.Repeat("a", many) + "\xff", 0, api.Fault{Code: api.ErrUtf, At: many}},
		{strings.Repeat("\x00", many), 0, missing(0)},
	} {
		if parts, f := Word(m, x.s); len(parts) != x.parts || f != x.f {
			t.Errorf("Word(%.10q ..) = %d parts, %v, not %d, %v", x.s, len(parts), f, x.parts, x.f)
		}
	}
}

// R3, R4: an answer hangs on its own call alone, and what is done to it is seen
// nowhere.
func TestWordShares(t *testing.T) {
	m := table()
	s := "ab" + sh + "ffi"
	want := []api.Part{part("ab", 4, 30, 3), part("ffi", 11, 33, 0)}
	for range 3 {
		one, _ := Word(m, s)
		other, f := Word(m, s)
		Word(odd(), "x")
		Hyphen(odd())
		if !slices.Equal(one, want) || !slices.Equal(other, want) || f != (api.Fault{}) || Hyphen(m) != part("-", 1, 10, 1) {
			t.Errorf("Word = %v, %v, %v", one, other, f)
		}
		clear(one)
		_ = append(one[:0], part("z", 1, 1, 1))
		if !slices.Equal(other, want) || !same(m, table()) {
			t.Errorf("other parts became %v, the table %v", other, m)
		}
	}
}
