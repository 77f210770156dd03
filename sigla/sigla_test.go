package sigla

import (
	"regexp"
	"slices"
	"strconv"
	"strings"
	"testing"

	"variorum/api"
)

// of is the table of the keys and names, one behind the other.
func of(words ...string) []api.Siglum {
	var t []api.Siglum
	for i := 0; i < len(words); i += 2 {
		t = append(t, api.Siglum{Key: words[i], Name: words[i+1]})
	}
	return t
}

// keyed is a table of keys whose names do not matter.
func keyed(keys ...string) []api.Siglum {
	var t []api.Siglum
	for _, key := range keys {
		t = append(t, api.Siglum{Key: key, Name: "of " + key})
	}
	return t
}

// numbered is a valid table of n keys, if there are no more than 100.
func numbered(n int) []api.Siglum {
	var t []api.Siglum
	for i := range n {
		t = append(t, api.Siglum{Key: "k" + strconv.Itoa(i), Name: "n"})
	}
	return t
}

func textOf(t []api.Siglum) string {
	var s strings.Builder
	for _, x := range t {
		s.WriteString(x.Key + " " + x.Name + "\n")
	}
	return s.String()
}

func faulty(t *testing.T, s string, code api.Errno, at int) {
	t.Helper()
	if got, f := Parse(s); len(got) != 0 || f != (api.Fault{Code: code, At: at}) {
		t.Errorf("Parse(%.80q) = %v, %v, not %d at %d", s, got, f, code, at)
	}
}

// back holds that a table is valid, and is printed and parsed.
func back(t *testing.T, table []api.Siglum) {
	t.Helper()
	s := textOf(table)
	if !May(table) || Print(table) != s {
		t.Errorf("May(%v) = %v, Print = %q", table, May(table), Print(table))
	}
	if got, f := Parse(s); !slices.Equal(got, table) || f != (api.Fault{}) {
		t.Errorf("Parse(%q) = %v, %v", s, got, f)
	}
}

// refused holds that a table is not valid, and is not printed.
func refused(t *testing.T, table []api.Siglum) {
	t.Helper()
	if May(table) || Print(table) != "" {
		t.Errorf("May(%.80q) = %v, Print = %q", textOf(table), May(table), Print(table))
	}
}

// The errors and the limit have the document's numbers.
func TestNumbers(t *testing.T) {
	if api.OK != 0 || api.ErrSiglaLine != 130 || api.ErrSiglaTwice != 131 || api.ErrSiglaMany != 132 || api.ErrSiglaKey != 133 || api.MaxSigla != 100 {
		t.Error("the errors or the limit are others than the document's")
	}
}

// P13.1, P13.4, P2: valid tables and their texts, worked out by hand.
func TestParse(t *testing.T) {
	long := strings.Repeat("x", 200)
	for s, table := range map[string][]api.Siglum{
		"":                            nil,
		"A b\n":                       of("A", "b"),
		"A Codex Sangallensis 878\n":  of("A", "Codex Sangallensis 878"),
		"A b\nB b\nA1 b\n":            of("A", "b", "B", "b", "A1", "b"),
		"B z\nA y\na x\nAA A\n":       of("B", "z", "A", "y", "a", "x", "AA", "A"),
		"abcXYZ09 a\nabcXYZ0 b\n":     of("abcXYZ09", "a", "abcXYZ0", "b"),
		"0 0\n00 00\n":                of("0", "0", "00", "00"),
		"A  \n":                       of("A", " "),
		"A  b \n":                     of("A", " b "),
		"A     \nB   x  y\n":          of("A", "    ", "B", "  x  y"),
		"A A b\n":                     of("A", "A b"),
		"A \r\n":                      of("A", "\r"),
		"A \x00\xff\tä%{}\\..\n":      of("A", "\x00\xff\tä%{}\\.."),
		"A " + long + "\nB " + "b\n":  of("A", long, "B", "b"),
		"A " + long[:199] + "\nB c\n": of("A", long[:199], "B", "c"),
	} {
		got, f := Parse(s)
		if !slices.Equal(got, table) || f != (api.Fault{}) {
			t.Errorf("Parse(%q) = %q, %v, not %q", s, got, f, table)
		}
		back(t, table)
	}
}

// P13.1: lines that are none, alone and behind a line that is one.
func TestLines(t *testing.T) {
	for _, line := range []string{
		"\n", " \n", "  \n", "A\n", "A \n", " A\n", " A b\n", "AB\n", "A\tb\n", "A\u00a0b\n", "A\x00b\n", "A\r\n",
		"123456789 b\n", "A.B b\n", "A..B b\n", "A- b\n", "ä b\n", "Ä b\n", "\xff b\n", "\u0660 b\n", "A\u00ad b\n", "_ b\n", "- b\n", "+1 b\n",
		"A " + strings.Repeat("x", 201) + "\n", "A " + strings.Repeat(" ", 201) + "\n", "A " + strings.Repeat("ä", 101) + "\n", "%\n", "\r\n",
	} {
		faulty(t, line, 130, 0)
		faulty(t, line+"\n", 130, 0)
		faulty(t, line+"C c\n", 130, 0)
		faulty(t, "C c\n"+line, 130, 1)
		faulty(t, "C c\nD d\n"+line+"E\n", 130, 2)
		faulty(t, "C c\nC d\n"+line, 131, 1)
	}
	// Text behind the last byte 10.
	for _, rest := range []string{"B b", "C c", "B", " ", "x", "\r", "\x00", "A b", "B b\r", "B " + strings.Repeat("x", 500)} {
		faulty(t, rest, 130, 0)
		faulty(t, "C c\n"+rest, 130, 1)
		faulty(t, "C c\nD d\n"+rest, 130, 2)
	}
}

// P13.1: keys that an earlier line has, and the first of several faults.
func TestTwice(t *testing.T) {
	faulty(t, "A a\nA a\n", 131, 1)
	faulty(t, "A a\nA b\n", 131, 1)
	faulty(t, "A a\nB a\nA c\n", 131, 2)
	faulty(t, "A a\nB a\nB c\nA d\n", 131, 2)
	faulty(t, "A a\nB b\nA b\nB \n", 131, 2)
	faulty(t, "A a\nB b\nB \nA a\n", 130, 2)
	faulty(t, "A a\nA", 130, 1)
	faulty(t, "A a\nA \n", 130, 1)
	faulty(t, "A a\nA a", 130, 1) // not ended comes ahead of twice
	faulty(t, "a a\nA a\na a\n", 131, 2)
	faulty(t, "12345678 a\n12345678 b\n", 131, 1)
}

// P13.1: a hundred sigla and more; the other faults of a line come first.
func TestMany(t *testing.T) {
	for _, n := range []int{1, 2, 99, 100} {
		back(t, numbered(n))
	}
	full := textOf(numbered(100))
	for _, x := range []struct {
		rest string
		code api.Errno
	}{{"A a\n", 132}, {"A a\nA a\n", 132}, {"A a\n\n", 132}, {"k0 a\n", 131}, {"k99 a\n", 131}, {"k50 a\nA a\n", 131}, {"A a", 130}, {"k0 a", 130}, {"A \n", 130}, {"\n", 130}} {
		faulty(t, full+x.rest, x.code, 100)
	}
	faulty(t, textOf(numbered(99))+"k0 a\n"+full, 131, 99)
	faulty(t, textOf(numbered(101)), 132, 100)
	faulty(t, textOf(numbered(1000)), 132, 100)
	refused(t, numbered(101))
	refused(t, numbered(1000))
	refused(t, append(numbered(100), numbered(1)...))
}

// P13.1: each byte in each place of a key and of a name.
func TestBytes(t *testing.T) {
	const inKeys = "abcdefghijklmnopqrstuvwxyzABCDEFGHIJKLMNOPQRSTUVWXYZ0123456789"
	for b := range 256 {
		s := string([]byte{byte(b)})
		for _, key := range []string{s, s + "A", "A" + s, "A" + s + "A", "AAAAAAA" + s, s + "1234567"} {
			table := of(key, "n")
			if strings.Contains(inKeys, s) {
				back(t, table)
				continue
			}
			refused(t, table)
			if _, f := Parse(textOf(table)); f != (api.Fault{Code: 130, At: 0}) {
				// A blank behind a key ends it: what follows is the name.
				if s != " " || key[0] == ' ' {
					t.Errorf("the byte %d in %q: %v", b, key, f)
				}
			}
		}
		for _, name := range []string{s, s + "n", "n" + s, "n" + s + "n", strings.Repeat(s, 200), s + strings.Repeat("n", 199)} {
			if b != 10 {
				back(t, of("A", name))
				continue
			}
			refused(t, of("A", name))
		}
	}
}

// P13.1: tables that are not valid, by one condition alone.
func TestMay(t *testing.T) {
	for _, x := range []api.Siglum{
		{}, {Key: "A"}, {Name: "a"}, {Key: "123456789", Name: "a"}, {Key: "A B", Name: "a"}, {Key: "A\n", Name: "a"}, {Key: "A ", Name: "a"},
		{Key: " ", Name: "a"}, {Key: "ä", Name: "a"}, {Key: "A..B", Name: "a"}, {Key: ".", Name: "a"},
		{Key: "A", Name: "\n"}, {Key: "A", Name: "a\n"}, {Key: "A", Name: "\na"}, {Key: "A", Name: strings.Repeat("a", 201)},
		{Key: "X", Name: "a"}, {Key: "Y", Name: "y"},
	} {
		refused(t, append(of("X", "x", "Y", "y"), x))
		refused(t, append([]api.Siglum{x}, of("X", "x", "Y", "y")...))
		refused(t, append(of("X", "x", "Z", "z"), append([]api.Siglum{x}, of("Y", "y")...)...))
	}
	refused(t, of("A", "a", "A", "a"))
	refused(t, of("A", "a", "A", "b"))
	if !May(nil) || !May([]api.Siglum{}) || Print(nil) != "" {
		t.Error("a table of no sigla is not valid")
	}
}

// P13.1: the first one with the key, in tables that are valid or not.
func TestFind(t *testing.T) {
	for _, x := range []struct {
		t    []api.Siglum
		key  string
		want int
	}{
		{nil, "A", -1}, {nil, "", -1}, {keyed("A"), "A", 0}, {keyed("A"), "a", -1}, {keyed("A"), "", -1}, {keyed("A"), "AA", -1},
		{keyed("AA"), "A", -1}, {keyed("A", "B", "C"), "C", 2}, {keyed("A", "B", "C"), "B", 1}, {keyed("A", "B", "C"), "B ", -1},
		{of("A", "B", "C", "D"), "B", -1}, {of("A", "B", "B", "D"), "B", 1},
		{of("A", "a", "B", "b", "A", "c"), "A", 0}, {of("B", "a", "A", "b", "A", "b"), "A", 1},
		{of("A", "", "", ""), "", 1}, {of("a b\n", "x", "\xff", "x"), "\xff", 1}, {of("a b\n", "x"), "a b\n", 0},
		{numbered(300), "k299", 299}, {numbered(100), "k100", -1},
	} {
		if got := Find(x.t, x.key); got != x.want {
			t.Errorf("Find(%v, %q) = %d, not %d", x.t, x.key, got, x.want)
		}
	}
}

var wholeLine = regexp.MustCompile(`^([A-Za-z0-9]{1,8}) (?s:(.{1,200}))$`)

// parseHolds holds the answer against the chapter's words, line by line.
func parseHolds(t *testing.T, s string) {
	t.Helper()
	lines := strings.Split(s, "\n")
	last := len(lines) - 1
	var want []api.Siglum
	var fault api.Fault
	for at, line := range lines {
		if at == last && line == "" {
			break
		}
		m := wholeLine.FindStringSubmatch(line)
		if at == last || m == nil {
			fault = api.Fault{Code: 130, At: at}
			break
		}
		if slices.ContainsFunc(want, func(x api.Siglum) bool { return x.Key == m[1] }) {
			fault = api.Fault{Code: 131, At: at}
			break
		}
		want = append(want, api.Siglum{Key: m[1], Name: m[2]})
	}
	if fault.Code != 0 {
		want = nil
	}
	got, f := Parse(s)
	if f != fault || !slices.Equal(got, want) {
		t.Errorf("Parse(%q) = %q, %v, not %q, %v", s, got, f, want, fault)
	}
	if f.Code == 0 && (!May(got) || Print(got) != s) {
		t.Errorf("%q is parsed and printed to %q", s, Print(got))
	}
}

// P13.1, P2: all texts of up to seven pieces that could be taken for one another.
func TestShortTexts(t *testing.T) {
	var grow func(s string, more int)
	grow = func(s string, more int) {
		parseHolds(t, s)
		if more == 0 {
			return
		}
		for _, piece := range []string{"A", "b", " ", "\n", ".", "A b\n"} {
			grow(s+piece, more-1)
		}
	}
	grow("", 7)
}

// P13.1, P2: a text with each byte left out, put in or changed.
func TestChangedTexts(t *testing.T) {
	text := "A Codex\nB2  b \n12345678 a A\na b\n"
	for at := range len(text) + 1 {
		for b := range 128 {
			parseHolds(t, text[:at]+string([]byte{byte(b)})+text[at:])
			if at < len(text) {
				parseHolds(t, text[:at]+string([]byte{byte(b)})+text[at+1:])
			}
		}
		parseHolds(t, text[:at])
		parseHolds(t, text[at:])
		if at < len(text) {
			parseHolds(t, text[:at]+text[at+1:])
		}
	}
}

// P13.1, P13.4: all small tables, of valid and other sigla: one is valid if its
// text is parsed back to it.
func TestSmallTables(t *testing.T) {
	pool := []api.Siglum{{Key: "A", Name: "a"}, {Key: "A", Name: "b"}, {Key: "B", Name: " "}, {Key: "C"}, {Name: "c"}, {Key: "A B", Name: "a"}, {Key: "C", Name: "x\nD d"}, {Key: "C", Name: "a"}}
	count := 0
	var grow func(table []api.Siglum, more int)
	grow = func(table []api.Siglum, more int) {
		s := textOf(table)
		got, f := Parse(s)
		want := f.Code == 0 && slices.Equal(got, table)
		if want {
			count++
			back(t, table)
		} else {
			refused(t, table)
		}
		if more == 0 {
			return
		}
		for _, x := range pool {
			grow(append(slices.Clone(table), x), more-1)
		}
	}
	grow(nil, 4)
	// No siglum; A twice over, B or C; pairs; all three keys in any order.
	if count != 1+4+(4+4+2)+12 {
		t.Errorf("%d tables are valid", count)
	}
}
