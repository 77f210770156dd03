package metric

import (
	"math"
	"slices"
	"strconv"
	"testing"

	"variorum/api"
)

const (
	widest = api.MaxScaled
	hyphen = 45
)

// small has some of everything: a hyphen, the letters a, b and a long one.
func small() api.Metric {
	return api.Metric{
		Space:  api.Glue{Width: 3 * api.One, Stretch: api.One, Shrink: api.One / 2},
		Hyphen: hyphen,
		Chars:  []api.Char{{Code: hyphen, Width: 2 * api.One, Height: api.One}, {Code: 'a', Width: 1, Depth: 7}, {Code: 'b', Height: widest}, {Code: 0x10ffff, Width: widest, Height: widest, Depth: widest}},
		Kerns:  []api.Kern{{A: hyphen, B: hyphen, Width: -widest}, {A: 'a', B: 'a', Width: -1}, {A: 'a', B: 'b'}, {A: 'b', B: hyphen, Width: widest}},
		Ligs:   []api.Lig{{A: hyphen, B: 'b', To: 'a'}, {A: 'a', B: 'a', To: 'a'}, {A: 'a', B: 0x10ffff, To: hyphen}, {A: 0x10ffff, B: hyphen, To: 0x10ffff}},
	}
}

const smallText = `space 3.0 1.0 0.5
hyphen 45
char 45 2.0 1.0 0.0
char 97 0.00002 0.0 0.0001
char 98 0.0 16383.99998 0.0
char 1114111 16383.99998 16383.99998 16383.99998
kern 45 45 -16383.99998
kern 97 97 -0.00002
kern 97 98 0.0
kern 98 45 16383.99998
lig 45 98 97
lig 97 97 97
lig 97 1114111 45
lig 1114111 45 1114111
`

// least has no more than a valid table must have.
func least() api.Metric {
	return api.Metric{Chars: []api.Char{{}}}
}

const leastText = "space 0.0 0.0 0.0\nhyphen 0\nchar 0 0.0 0.0 0.0\n"

// full has as many letters, kerns and ligatures as fit.
func full() api.Metric {
	m := api.Metric{Space: api.Glue{Width: widest, Stretch: widest, Shrink: widest}, Hyphen: 3 * 255}
	for i := range 256 {
		m.Chars = append(m.Chars, api.Char{Code: rune(3 * i), Width: int64(i), Height: int64(2 * i), Depth: int64(widest - i)})
	}
	for i := range 1000 {
		a, b, to := rune(3*(i/32)), rune(3*(i%32)), rune(3*(i%256))
		m.Kerns = append(m.Kerns, api.Kern{A: a, B: b, Width: int64(500 - i)})
		m.Ligs = append(m.Ligs, api.Lig{A: b, B: a, To: to})
	}
	slices.SortFunc(m.Ligs, func(x, y api.Lig) int { return int(x.A-y.A)*1000 + int(x.B-y.B) })
	return m
}

func same(a, b api.Metric) bool {
	return a.Space == b.Space && a.Hyphen == b.Hyphen && slices.Equal(a.Chars, b.Chars) && slices.Equal(a.Kerns, b.Kerns) && slices.Equal(a.Ligs, b.Ligs)
}

func copyOf(m api.Metric) api.Metric {
	m.Chars, m.Kerns, m.Ligs = slices.Clone(m.Chars), slices.Clone(m.Kerns), slices.Clone(m.Ligs)
	return m
}

func isZero(m api.Metric) bool {
	return same(m, api.Metric{})
}

// The errors have the document's numbers.
func TestNumbers(t *testing.T) {
	if api.ErrMetricLine != 70 || api.ErrMetricTable != 71 || api.OK != 0 {
		t.Error("the errors have other numbers than the document's")
	}
	if api.MaxChars != 256 || api.MaxPairs != 1000 || api.MaxScaled != 1073741823 {
		t.Error("the limits are others than the document's")
	}
}

// firstOf is P7.2 by another way: from the last one to the first one.
func firstOf[T any](l []T, is func(T) bool) (T, bool) {
	var found T
	some := false
	for i := len(l) - 1; i >= 0; i-- {
		if is(l[i]) {
			found, some = l[i], true
		}
	}
	return found, some
}

// searchHolds asks for each code and each pair of codes.
func searchHolds(t *testing.T, m api.Metric, codes []rune) {
	t.Helper()
	for _, a := range codes {
		char, ok := firstOf(m.Chars, func(c api.Char) bool { return c.Code == a })
		if c, found := Find(m, a); c != char || found != ok {
			t.Errorf("Find(%x) = %v, %v, not %v, %v", a, c, found, char, ok)
		}
		for _, b := range codes {
			kern, _ := firstOf(m.Kerns, func(k api.Kern) bool { return k.A == a && k.B == b })
			if n := Kern(m, a, b); n != kern.Width {
				t.Errorf("Kern(%x, %x) = %d, not %d", a, b, n, kern.Width)
			}
			lig, ok := firstOf(m.Ligs, func(l api.Lig) bool { return l.A == a && l.B == b })
			if to, found := Lig(m, a, b); to != lig.To || found != ok {
				t.Errorf("Lig(%x, %x) = %x, %v, not %x, %v", a, b, to, found, lig.To, ok)
			}
		}
	}
}

// P7.2: in valid tables, what is there and what is not.
func TestSearch(t *testing.T) {
	codes := []rune{0, 1, 3, 6, 44, hyphen, 46, 'a', 'b', 'c', 255, 256, 762, 765, 768, 0xd800, 0x10fffe, 0x10ffff, 0x110000, -1, math.MaxInt32, math.MinInt32}
	for _, m := range []api.Metric{small(), least(), full(), {}} {
		searchHolds(t, m, codes)
	}
	m := small()
	if c, ok := Find(m, 'a'); c != (api.Char{Code: 'a', Width: 1, Depth: 7}) || !ok {
		t.Errorf("Find(a) = %v, %v", c, ok)
	}
	if c, ok := Find(m, 'c'); c != (api.Char{}) || ok {
		t.Errorf("Find(c) = %v, %v", c, ok)
	}
	if Kern(m, 'b', hyphen) != widest || Kern(m, 'a', 'a') != -1 || Kern(m, hyphen, 'b') != 0 || Kern(m, 'a', 'b') != 0 {
		t.Error("the kerns are others")
	}
	if to, ok := Lig(m, hyphen, 'b'); to != 'a' || !ok {
		t.Errorf("Lig(-, b) = %x, %v", to, ok)
	}
	if to, ok := Lig(m, 'b', hyphen); to != 0 || ok {
		t.Errorf("Lig(b, -) = %x, %v", to, ok)
	}
}

// odd is no valid table in any way: it has codes that are no letters', in no
// order, some of them twice.
func odd() api.Metric {
	return api.Metric{
		Space: api.Glue{Width: -1, Stretch: math.MinInt64, Order: 9}, Hyphen: -7,
		Chars: []api.Char{{Code: 'b', Width: 1}, {Code: -1, Width: -2}, {Code: 'a', Width: 3}, {Code: 'b', Width: 4}, {Code: 0xd800, Width: math.MaxInt64}, {Code: 'a', Width: 5}, {Code: math.MinInt32, Depth: math.MinInt64}, {}},
		Kerns: []api.Kern{{A: 'b', B: 'a', Width: 1}, {A: -1, B: 'c', Width: math.MinInt64}, {A: 'a', B: 'b', Width: 2}, {A: 'b', B: 'a', Width: 3}, {A: 'a', B: 'a', Width: 0}, {A: 'a', B: 'a', Width: 4}, {A: 'c', B: 'c', Width: math.MaxInt64}},
		Ligs:  []api.Lig{{A: 'b', B: 'a', To: -1}, {A: 'a', B: 'a', To: 0}, {A: 'a', B: 'a', To: 'b'}, {A: 'a', B: -1, To: math.MaxInt32}, {A: 'b', B: 'a', To: 'c'}, {A: math.MinInt32, B: math.MaxInt32, To: math.MinInt32}},
	}
}

// P7.2: in tables that are not valid, the first one of several.
func TestSearchOdd(t *testing.T) {
	searchHolds(t, odd(), []rune{'a', 'b', 'c', 0, -1, -7, 0xd800, math.MinInt32, math.MaxInt32})
	m := odd()
	if c, ok := Find(m, 'b'); c.Width != 1 || !ok {
		t.Errorf("Find(b) = %v, %v", c, ok)
	}
	if to, ok := Lig(m, 'a', 'a'); to != 0 || !ok {
		t.Errorf("Lig(a, a) = %x, %v", to, ok)
	}
	if Kern(m, 'b', 'a') != 1 || Kern(m, 'a', 'a') != 0 || Kern(m, -1, 'c') != math.MinInt64 {
		t.Error("the kerns are others")
	}
}

// P1, R1: tables of a great length end in good time.
func TestLongTables(t *testing.T) {
	const many = 1 << 20
	m := small()
	m.Chars = append(slices.Repeat([]api.Char{{Code: 'c', Width: 1}}, many), api.Char{Code: 'd', Width: 2})
	m.Kerns = append(slices.Repeat([]api.Kern{{A: 'c', B: 'c', Width: 1}}, many), api.Kern{A: 'c', B: 'd', Width: 2})
	m.Ligs = append(slices.Repeat([]api.Lig{{A: 'c', B: 'c', To: 'c'}}, many), api.Lig{A: 'c', B: 'd', To: 'e'})
	if c, ok := Find(m, 'd'); c.Width != 2 || !ok {
		t.Errorf("Find = %v, %v", c, ok)
	}
	if to, ok := Lig(m, 'c', 'd'); to != 'e' || !ok || Kern(m, 'c', 'd') != 2 {
		t.Errorf("Lig = %x, %v, Kern = %d", to, ok, Kern(m, 'c', 'd'))
	}
	if Check(m) != api.ErrMetricTable || Print(m) != "" {
		t.Error("a long table is valid")
	}
	for i := range m.Chars {
		m.Chars[i].Code = rune(i)
		m.Kerns[i] = api.Kern{A: rune(i), B: rune(i)}
		m.Ligs[i] = api.Lig{A: rune(i), B: rune(i), To: rune(i)}
	}
	for _, x := range []api.Metric{m, {Chars: m.Chars}, {Chars: m.Chars[:1], Kerns: m.Kerns}, {Chars: m.Chars[:1], Ligs: m.Ligs}, {Chars: m.Chars[:256], Kerns: m.Kerns, Ligs: m.Ligs}} {
		if Check(x) != api.ErrMetricTable || Print(x) != "" {
			t.Errorf("%d letters, %d kerns, %d ligatures are valid", len(x.Chars), len(x.Kerns), len(x.Ligs))
		}
	}
}

// R3, R4: an answer hangs on its own call alone; tables that are asked stay as
// they are; what is done to an answer is seen nowhere.
func TestNothingKeptOrShared(t *testing.T) {
	tables := []api.Metric{small(), least(), full(), odd(), {}}
	for range 3 {
		for i, m := range tables {
			before := copyOf(m)
			Check(m)
			Print(m)
			Find(m, 'a')
			Kern(m, 'a', 'a')
			Lig(m, 'a', 'a')
			Parse("space 1.0 x")
			if !same(m, before) {
				t.Errorf("table %d became %v", i, m)
			}
		}
		m, f := Parse(smallText)
		other, _ := Parse(smallText)
		if !same(m, small()) || !same(other, small()) || f != (api.Fault{}) || Print(m) != smallText {
			t.Errorf("Parse = %v, %v", m, f)
		}
		clear(m.Chars)
		clear(m.Kerns)
		clear(m.Ligs)
		_ = append(m.Chars[:0], api.Char{Code: 9})
		if !same(other, small()) {
			t.Errorf("another table became %v", other)
		}
	}
}

// R4: the lists behind a table's own are not written to.
func TestNothingBehind(t *testing.T) {
	chars := []api.Char{{Code: 1}, {Code: 2}, {Code: 3}}
	kerns := []api.Kern{{A: 1, B: 1, Width: 1}, {A: 2, B: 2, Width: 2}}
	ligs := []api.Lig{{A: 1, B: 1, To: 1}, {A: 2, B: 2, To: 2}}
	m := api.Metric{Hyphen: 1, Chars: chars[:1], Kerns: kerns[:1], Ligs: ligs[:1]}
	if Check(m) != api.OK || Print(m) == "" {
		t.Error("the table is not valid")
	}
	if _, ok := Find(m, 2); ok || Kern(m, 2, 2) != 0 {
		t.Error("what stands behind a list is found")
	}
	if _, ok := Lig(m, 2, 2); ok || chars[1].Code != 2 || kerns[1].Width != 2 || ligs[1].To != 2 {
		t.Error("what stands behind a list is found or changed")
	}
}

// R5: lists that are nil and those that are empty are the same.
func TestNilOrEmpty(t *testing.T) {
	m := least()
	m.Kerns, m.Ligs = []api.Kern{}, []api.Lig{}
	if Check(m) != api.OK || Print(m) != leastText || Check(least()) != api.OK || Print(least()) != leastText {
		t.Error("no kerns and ligatures")
	}
	for _, m := range []api.Metric{{}, {Chars: []api.Char{}, Kerns: []api.Kern{}, Ligs: []api.Lig{}}} {
		if Check(m) != api.ErrMetricTable || Print(m) != "" {
			t.Error("no letters")
		}
		if c, ok := Find(m, 0); c != (api.Char{}) || ok || Kern(m, 0, 0) != 0 {
			t.Errorf("Find = %v, %v", c, ok)
		}
		if to, ok := Lig(m, 0, 0); to != 0 || ok {
			t.Errorf("Lig = %x, %v", to, ok)
		}
	}
}

// lineText is any line's text, valid or not.
func lineText(name string, words ...string) string {
	for _, w := range words {
		name += " " + w
	}
	return name + "\n"
}

func number(n rune) string { return strconv.Itoa(int(n)) }
