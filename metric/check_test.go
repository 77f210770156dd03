package metric

import (
	"math"
	"testing"

	"variorum/api"
	"variorum/scaled"
)

// P7.1: valid tables, the least and the greatest ones.
func TestCheck(t *testing.T) {
	for i, m := range []api.Metric{small(), least(), full()} {
		if Check(m) != api.OK || Print(m) == "" {
			t.Errorf("table %d: Check = %d, %d bytes", i, Check(m), len(Print(m)))
		}
	}
	for _, c := range []rune{0, 1, 0x7f, 0x80, 0xad, 0xd7ff, 0xe000, 0xfffd, 0xffff, 0x10000, 0x10ffff} {
		m := api.Metric{Hyphen: c, Chars: []api.Char{{Code: c}}, Kerns: []api.Kern{{A: c, B: c}}, Ligs: []api.Lig{{A: c, B: c, To: c}}}
		if Check(m) != api.OK || Print(m) == "" {
			t.Errorf("the letter %x", c)
		}
	}
}

// changed are tables each of which breaks one condition alone.
func changed() map[string]api.Metric {
	l := map[string]api.Metric{"nothing": {}}
	with := func(name string, change func(m *api.Metric)) {
		m := small()
		change(&m)
		l[name] = m
	}
	for name, n := range map[string]int64{" -1": -1, " wide": widest + 1, " least": math.MinInt64, " greatest": math.MaxInt64, " wrapped": 1 << 32} {
		with("space's width"+name, func(m *api.Metric) { m.Space.Width = n })
		with("space's stretch"+name, func(m *api.Metric) { m.Space.Stretch = n })
		with("space's shrink"+name, func(m *api.Metric) { m.Space.Shrink = n })
		for at, which := range []string{" first", " second", " third", " last"} {
			with("width of the"+which+name, func(m *api.Metric) { m.Chars[at].Width = n })
			with("height of the"+which+name, func(m *api.Metric) { m.Chars[at].Height = n })
			with("depth of the"+which+name, func(m *api.Metric) { m.Chars[at].Depth = n })
			if n != -1 {
				with("kern of the"+which+name, func(m *api.Metric) { m.Kerns[at].Width = n })
			}
		}
	}
	with("kern too narrow", func(m *api.Metric) { m.Kerns[3].Width = -widest - 1 })
	for name, n := range map[string]int{" -1": -1, " 1": 1, " 2": 2, " 3": 3, " 4": 4, " least": math.MinInt, " greatest": math.MaxInt} {
		with("space's order"+name, func(m *api.Metric) { m.Space.Order = n })
	}
	for name, c := range map[string]rune{" -1": -1, " 0": 0, " between": 'a' - 1, " behind": 'b' + 1, " most": math.MaxInt32, " least": math.MinInt32} {
		with("hyphen"+name, func(m *api.Metric) { m.Hyphen = c })
		for at, which := range []string{" first", " second", " third", " last"} {
			with("kern's a of the"+which+name, func(m *api.Metric) { m.Kerns[at].A = c })
			with("kern's b of the"+which+name, func(m *api.Metric) { m.Kerns[at].B = c })
			with("ligature's a of the"+which+name, func(m *api.Metric) { m.Ligs[at].A = c })
			with("ligature's b of the"+which+name, func(m *api.Metric) { m.Ligs[at].B = c })
			with("ligature's to of the"+which+name, func(m *api.Metric) { m.Ligs[at].To = c })
		}
	}
	orders(with)
	return l
}

// orders breaks the order of letters, kerns and ligatures, and what is a letter.
func orders(with func(name string, change func(m *api.Metric))) {
	with("no letters", func(m *api.Metric) { m.Chars = nil })
	with("no hyphen among the letters", func(m *api.Metric) { m.Chars = m.Chars[1:] })
	with("letters swapped", func(m *api.Metric) { m.Chars[1], m.Chars[2] = m.Chars[2], m.Chars[1] })
	with("last letters swapped", func(m *api.Metric) { m.Chars[2], m.Chars[3] = m.Chars[3], m.Chars[2] })
	with("first letter twice", func(m *api.Metric) { m.Chars = append(m.Chars[:1:1], m.Chars...) })
	with("last letter twice", func(m *api.Metric) { m.Chars = append(m.Chars, m.Chars[3]) })
	with("a letter twice", func(m *api.Metric) { m.Chars[2].Code = 'a'; m.Kerns, m.Ligs = nil, nil })
	for name, c := range map[string]rune{" first low": 0xd800, " last low": 0xdfff, " behind the last": 0x110000, " most": math.MaxInt32} {
		with("no letter"+name, func(m *api.Metric) { m.Chars[3].Code, m.Ligs = c, nil })
	}
	with("no letter -1", func(m *api.Metric) { m.Chars = append([]api.Char{{Code: -1}}, m.Chars...) })
	with("no letter least", func(m *api.Metric) { m.Chars = append([]api.Char{{Code: math.MinInt32}}, m.Chars...) })
	with("no letter, all over", func(m *api.Metric) { *m = api.Metric{Hyphen: -1, Chars: []api.Char{{Code: -1}}} })
	with("kerns swapped by a", func(m *api.Metric) { m.Kerns[0], m.Kerns[1] = m.Kerns[1], m.Kerns[0] })
	with("kerns swapped by b", func(m *api.Metric) { m.Kerns[1], m.Kerns[2] = m.Kerns[2], m.Kerns[1] })
	with("last kerns swapped", func(m *api.Metric) { m.Kerns[2], m.Kerns[3] = m.Kerns[3], m.Kerns[2] })
	with("kern twice", func(m *api.Metric) { m.Kerns[2] = m.Kerns[1] })
	with("kern twice with two widths", func(m *api.Metric) { m.Kerns[2].B = 'a' })
	with("last kern twice", func(m *api.Metric) { m.Kerns = append(m.Kerns, m.Kerns[3]) })
	with("ligatures swapped by a", func(m *api.Metric) { m.Ligs[0], m.Ligs[1] = m.Ligs[1], m.Ligs[0] })
	with("ligatures swapped by b", func(m *api.Metric) { m.Ligs[1], m.Ligs[2] = m.Ligs[2], m.Ligs[1] })
	with("ligature twice", func(m *api.Metric) { m.Ligs[2] = m.Ligs[1] })
	with("ligature twice to two letters", func(m *api.Metric) { m.Ligs[1].To, m.Ligs[2] = 'b', m.Ligs[1] })
	with("last ligature twice", func(m *api.Metric) { m.Ligs = append(m.Ligs, m.Ligs[3]) })
	with("too many letters", func(m *api.Metric) {
		*m = full()
		m.Chars = append(m.Chars, api.Char{Code: 1000})
	})
	with("too many kerns", func(m *api.Metric) {
		*m = full()
		m.Kerns = append(m.Kerns, api.Kern{A: 300, B: 300})
	})
	with("too many ligatures", func(m *api.Metric) {
		*m = full()
		m.Ligs = append(m.Ligs, api.Lig{A: 300, B: 300, To: 300})
	})
}

// P7.1, R2: one condition that is broken, and the table is not valid and not
// printed; nor is it read, if its text is one of lines at all.
func TestCheckRefuses(t *testing.T) {
	for name, m := range changed() {
		if code := Check(m); code != api.ErrMetricTable {
			t.Errorf("%s: Check = %d", name, code)
		}
		if s := Print(m); s != "" {
			t.Errorf("%s: Print = %q", name, s)
		}
		if m.Space.Order != 0 {
			continue // no text tells it
		}
		s, valid := textOf(m)
		got, f := Parse(s)
		if valid && f != (api.Fault{Code: api.ErrMetricTable, At: -1}) || f.Code == api.OK || !isZero(got) {
			t.Errorf("%s: Parse = %v, %v", name, got, f)
		}
	}
}

// textOf is the text of a table that need not be valid, and whether all of its
// lines are.
func textOf(m api.Metric) (string, bool) {
	valid := true
	length := func(n int64) string {
		valid = valid && scaled.Fits(n)
		return scaled.Print(n)
	}
	code := func(c rune) string {
		valid = valid && c >= 0 && c <= 9999999
		return number(c)
	}
	s := lineText("space", length(m.Space.Width), length(m.Space.Stretch), length(m.Space.Shrink)) + lineText("hyphen", code(m.Hyphen))
	for _, c := range m.Chars {
		s += lineText("char", code(c.Code), length(c.Width), length(c.Height), length(c.Depth))
	}
	for _, k := range m.Kerns {
		s += lineText("kern", code(k.A), code(k.B), length(k.Width))
	}
	for _, l := range m.Ligs {
		s += lineText("lig", code(l.A), code(l.B), code(l.To))
	}
	return s, valid
}

// P7.1: as many as may be, and one less, at each limit.
func TestLimits(t *testing.T) {
	m := full()
	if len(m.Chars) != 256 || len(m.Kerns) != 1000 || len(m.Ligs) != 1000 {
		t.Fatal("the full table is not full")
	}
	for _, x := range []api.Metric{
		{Hyphen: 3, Chars: m.Chars}, {Chars: m.Chars, Kerns: m.Kerns}, {Chars: m.Chars, Ligs: m.Ligs},
		{Chars: m.Chars[:255]}, {Chars: m.Chars, Kerns: m.Kerns[:999], Ligs: m.Ligs}, {Chars: m.Chars, Kerns: m.Kerns, Ligs: m.Ligs[:999]},
	} {
		if Check(x) != api.OK {
			t.Errorf("%d letters, %d kerns, %d ligatures are not valid", len(x.Chars), len(x.Kerns), len(x.Ligs))
		}
	}
}

// ascends is the chapter's order by another way: no earlier one is the same as a
// later one, or behind it.
func ascends(pairs [][2]rune) bool {
	for k := range pairs {
		for i := range k {
			if pairs[i][0] > pairs[k][0] || pairs[i][0] == pairs[k][0] && pairs[i][1] >= pairs[k][1] {
				return false
			}
		}
	}
	return true
}

// P7.1: all lists of up to four pairs of three codes, one of which is no
// letter's, for kerns and for ligatures.
func TestPairs(t *testing.T) {
	codes := []rune{hyphen, 'a', 'c'}
	var grow func(pairs [][2]rune, known bool)
	grow = func(pairs [][2]rune, known bool) {
		m := small()
		m.Kerns, m.Ligs = nil, nil
		for _, p := range pairs {
			m.Kerns = append(m.Kerns, api.Kern{A: p[0], B: p[1], Width: int64(p[0] - p[1])})
			m.Ligs = append(m.Ligs, api.Lig{A: p[0], B: p[1], To: 'b'})
		}
		want := known && ascends(pairs)
		for _, x := range []api.Metric{{Hyphen: 'a', Chars: m.Chars, Kerns: m.Kerns}, {Hyphen: 'b', Chars: m.Chars, Ligs: m.Ligs}} {
			if (Check(x) == api.OK) != want || (Print(x) != "") != want {
				t.Errorf("%d kerns, %d ligatures of %v: Check = %d", len(x.Kerns), len(x.Ligs), pairs, Check(x))
			}
		}
		if len(pairs) == 4 {
			return
		}
		for _, a := range codes {
			for _, b := range codes {
				grow(append(pairs[:len(pairs):len(pairs)], [2]rune{a, b}), known && a != 'c' && b != 'c')
			}
		}
	}
	grow(nil, true)
}
