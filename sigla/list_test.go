package sigla

import (
	"regexp"
	"slices"
	"strings"
	"testing"

	"variorum/api"
)

func five() []api.Siglum { return keyed("A", "B", "C", "D", "E") }

// invalid are tables that have the keys A to C, but are not valid.
func invalid() [][]api.Siglum {
	return [][]api.Siglum{
		keyed("A", "B", "C", "A"),
		keyed("A", "B", "C", "C"),
		of("A", "a", "B", "b", "C", ""),
		of("A", "\n", "B", "b", "C", "c"),
		keyed("A", "B", "C", "123456789"),
		keyed("", "A", "B", "C"),
		keyed("A", "B", "C", "A..B"),
		append(keyed("A", "B", "C"), numbered(98)...),
	}
}

type listed struct {
	t    []api.Siglum
	keys []string
	s    string
}

// lists are keys in the order of the table, each once, and what they are in short.
func lists() []listed {
	letters := keyed("b", "B", "ab", "a", "12345678", "1", "2")
	return []listed{
		{five(), nil, ""},
		{nil, nil, ""},
		{five(), words("A"), "A"},
		{five(), words("E"), "E"},
		{five(), words("A B"), "A B"},
		{five(), words("D E"), "D E"},
		{five(), words("A C"), "A C"},
		{five(), words("A C E"), "A C E"},
		{five(), words("A B C"), "A..C"},
		{five(), words("B C D"), "B..D"},
		{five(), words("C D E"), "C..E"},
		{five(), words("A B C E"), "A..C E"}, // the chapter's example
		{five(), words("A C D E"), "A C..E"},
		{five(), words("A B D E"), "A B D E"},
		{five(), words("A B C D"), "A..D"},
		{five(), words("A B C D E"), "A..E"},
		{keyed("A", "B", "C", "D", "E", "F", "G"), words("A B C E F G"), "A..C E..G"},
		{keyed("A", "B", "C", "D", "E", "F", "G"), words("A B D E F"), "A B D..F"},
		{keyed("A", "B", "C", "D", "E", "F", "G", "H"), words("B C D F H"), "B..D F H"},
		{keyed("A"), words("A"), "A"},
		{keyed("A", "B", "C"), words("A B C"), "A..C"},
		{letters, words("b B ab a 12345678 1 2"), "b..2"},
		{letters, words("b ab a 12345678 2"), "b ab..12345678 2"},
		{letters, words("B ab 1"), "B ab 1"},
		{numbered(100), keysOf(numbered(100)), "k0..k99"},
		{numbered(100), keysOf(numbered(100)[1:]), "k1..k99"},
		{numbered(100), keysOf(slices.Concat(numbered(99)[:60], numbered(99)[61:])), "k0..k59 k61..k98"},
	}
}

func words(s string) []string { return strings.Fields(s) }

func keysOf(t []api.Siglum) []string {
	var keys []string
	for _, x := range t {
		keys = append(keys, x.Key)
	}
	return keys
}

func compacts(t *testing.T, table []api.Siglum, keys []string, want string) {
	t.Helper()
	if s, f := Compact(table, keys); s != want || f != (api.Fault{}) {
		t.Errorf("Compact(%q, %q) = %q, %v, not %q", keysOf(table), keys, s, f, want)
	}
}

func expands(t *testing.T, table []api.Siglum, s string, want []string) {
	t.Helper()
	if keys, f := Expand(table, s); !slices.Equal(keys, want) || f != (api.Fault{}) {
		t.Errorf("Expand(%q, %q) = %q, %v, not %q", keysOf(table), s, keys, f, want)
	}
}

func lacks(t *testing.T, table []api.Siglum, keys []string, f api.Fault) {
	t.Helper()
	if s, got := Compact(table, keys); s != "" || got != f {
		t.Errorf("Compact(%q, %.80q) = %q, %v, not %v", keysOf(table), keys, s, got, f)
	}
}

func denies(t *testing.T, table []api.Siglum, s string, f api.Fault) {
	t.Helper()
	if keys, got := Expand(table, s); len(keys) != 0 || got != f {
		t.Errorf("Expand(%q, %.80q) = %q, %v, not %v", keysOf(table), s, keys, got, f)
	}
}

// P13.2, P13.3, P13.4: lists worked out by hand, there and back.
func TestLists(t *testing.T) {
	for _, x := range lists() {
		compacts(t, x.t, x.keys, x.s)
		expands(t, x.t, x.s, x.keys)
	}
}

// P13.2: keys in any order, and more than once.
func TestCompact(t *testing.T) {
	compacts(t, five(), words("B A C E"), "A..C E")
	compacts(t, five(), words("B A"), "A B")
	compacts(t, five(), words("E D C B A"), "A..E")
	compacts(t, five(), words("A A A"), "A")
	compacts(t, five(), words("B B A A B"), "A B")
	compacts(t, five(), words("C A C B A C"), "A..C")
	compacts(t, five(), words("E A E"), "A E")
	for _, x := range lists() {
		back := slices.Clone(x.keys)
		slices.Reverse(back)
		compacts(t, x.t, back, x.s)
		compacts(t, x.t, slices.Concat(back, x.keys, back), x.s)
	}
}

// P13.2, R2: the first of the keys that are none, wherever it stands.
func TestCompactNoKey(t *testing.T) {
	for _, key := range []string{"F", "a", "", " ", "A ", " A", "AA", "A B", "A..C", "..", ".", "of A", "\n", "\xff", "ä", strings.Repeat("A", 9), strings.Repeat("A", 1<<20)} {
		lacks(t, five(), []string{key}, noKey(0))
		lacks(t, five(), []string{key, key}, noKey(0))
		lacks(t, five(), []string{"A", key}, noKey(1))
		lacks(t, five(), []string{"A", "A", key, "B"}, noKey(2))
		lacks(t, five(), []string{"E", "B", "A", key, "F", ""}, noKey(3))
		lacks(t, nil, []string{key}, noKey(0))
	}
	lacks(t, nil, words("A"), noKey(0))
	lacks(t, numbered(100), words("k0 k99 k100"), noKey(2))
	if noKey(7) != (api.Fault{Code: 133, At: 7}) || noTable() != (api.Fault{Code: 130, At: -1}) {
		t.Error("the faults are others than the document's")
	}
}

// P13.2, P13.3, R2: a table that is not valid comes ahead of all that may be wrong
// with a list.
func TestNoTable(t *testing.T) {
	for _, table := range invalid() {
		for _, s := range []string{"", "A", "A B", "A B C", "X", "A X", " ", "A..C", "C..A", "X..Y"} {
			lacks(t, table, words(s), noTable())
			denies(t, table, s, noTable())
		}
	}
}

// P13.3: the denoted keys, in the order of the words, also those denoted twice.
func TestExpand(t *testing.T) {
	expands(t, five(), "A..C E", words("A B C E"))
	expands(t, five(), "A..B", words("A B"))
	expands(t, five(), "D..E", words("D E"))
	expands(t, five(), "A..E", words("A B C D E"))
	expands(t, five(), "E A", words("E A"))
	expands(t, five(), "A A", words("A A"))
	expands(t, five(), "E C..E B A..C", words("E C D E B A B C"))
	expands(t, five(), "A B C", words("A B C"))
	expands(t, keyed("A", "AA", "AAA", "a"), "AA..a A", words("AA AAA a A"))
	expands(t, keyed("2", "1", "12"), "2..12 1", words("2 1 12 1"))
	expands(t, keyed("B", "A"), "B..A", words("B A"))
}

// P13.3, R2: words of any other form, wherever they stand.
func TestExpandNoKey(t *testing.T) {
	for _, word := range []string{
		"F", "a", "AA", ".", "..", "...", "....", "A..", "..A", "..A..", "A..A", "B..A", "E..A", "C..B", "A.B", "A...B", "A....B",
		"A..B..C", "A..B..", "A..F", "F..A", "F..G", "A..a", "A..BB", "AB", "A,B", "A-C", "A\tB", "A\n", "\nA", "A\x00", "\u00a0", "A\u00a0B", "\xff", "A\u2025B",
		strings.Repeat("A", 1<<20), strings.Repeat(".", 1<<20), "A.." + strings.Repeat("B", 1<<20), strings.Repeat("A..", 1<<20),
	} {
		denies(t, five(), word, noKey(0))
		denies(t, five(), word+" "+word, noKey(0))
		denies(t, five(), "A "+word, noKey(1))
		denies(t, five(), "A..C "+word+" B", noKey(1))
		denies(t, five(), "A A..E B "+word+" F", noKey(3))
		denies(t, nil, word, noKey(0))
	}
	// Blanks at the ends, and two of them, stand beside an empty word.
	for s, at := range map[string]int{" ": 0, "  ": 0, " A": 0, "A ": 1, "A  B": 1, "A B ": 2, "A B  ": 2, "A..C  E": 1, "A..C E  F": 2, "A.. C": 0, "A ..C": 1, "A .. C": 1} {
		denies(t, five(), s, noKey(at))
	}
	denies(t, nil, "A", noKey(0))
	denies(t, nil, "A..B", noKey(0))
}

var runs = regexp.MustCompile(`x{3,}`)

// inShort is the chapter's words taken another way: marks of the used keys, in
// which the inner ones of each long run are struck out.
func inShort(table []api.Siglum, used []bool) string {
	marks := ""
	for _, u := range used {
		if u {
			marks += "x"
		} else {
			marks += "-"
		}
	}
	marks = runs.ReplaceAllStringFunc(marks, func(run string) string { return "[" + strings.Repeat("-", len(run)-2) + "]" })
	s := ""
	for i, mark := range marks {
		switch mark {
		case 'x':
			s += table[i].Key + " "
		case '[':
			s += table[i].Key + ".."
		case ']':
			s += table[i].Key + " "
		}
	}
	return strings.TrimSuffix(s, " ")
}

// P13.2 to P13.4: all sets of the keys of a table, in several orders.
func TestAllSets(t *testing.T) {
	table := keyed("b", "A1", "Z", "a", "B", "12345678", "c", "0", "A", "zz")
	for set := range 1 << len(table) {
		used := make([]bool, len(table))
		var keys []string
		for i, x := range table {
			if used[i] = set>>i&1 == 1; used[i] {
				keys = append(keys, x.Key)
			}
		}
		s := inShort(table, used)
		sorted := slices.Clone(keys)
		slices.Sort(sorted)
		for _, l := range [][]string{keys, sorted, slices.Concat(sorted, keys), slices.Concat(keys, keys)} {
			compacts(t, table, l, s)
		}
		expands(t, table, s, keys)
	}
}

// P13.4: all short lists of keys come back each once and in the table's order, and
// then in short as before.
func TestThereAndBack(t *testing.T) {
	for _, table := range [][]api.Siglum{keyed("A", "B", "C", "D"), keyed("D", "x", "B", "A", "C")} {
		var grow func(l []string, more int)
		grow = func(l []string, more int) {
			s, f := Compact(table, l)
			if f != (api.Fault{}) {
				t.Errorf("Compact(%q) = %v", l, f)
			}
			var want []string
			for _, x := range table {
				if slices.Contains(l, x.Key) {
					want = append(want, x.Key)
				}
			}
			expands(t, table, s, want)
			compacts(t, table, want, s)
			if more == 0 {
				return
			}
			for _, x := range table {
				grow(append(slices.Clone(l), x.Key), more-1)
			}
		}
		grow(nil, 5)
	}
}

// expandHolds holds the answer against the chapter's words taken another way: the
// forms that a word may have are all listed.
func expandHolds(t *testing.T, table []api.Siglum, forms map[string][]string, s string) {
	t.Helper()
	var want []string
	var fault api.Fault
	if s != "" {
		for at, word := range strings.Split(s, " ") {
			keys := forms[word]
			if keys == nil {
				want, fault = nil, api.Fault{Code: 133, At: at}
				break
			}
			want = append(want, keys...)
		}
	}
	if got, f := Expand(table, s); !slices.Equal(got, want) || f != fault {
		t.Errorf("Expand(%q, %q) = %q, %v, not %q, %v", keysOf(table), s, got, f, want, fault)
	}
}

// P13.3: all texts of up to seven pieces that could be taken for one another.
func TestShortLists(t *testing.T) {
	table := keyed("B", "A", "AB")
	forms := map[string][]string{}
	for i, x := range table {
		forms[x.Key] = []string{x.Key}
		for k := i + 1; k < len(table); k++ {
			forms[x.Key+".."+table[k].Key] = keysOf(table[i : k+1])
		}
	}
	var grow func(s string, more int)
	grow = func(s string, more int) {
		expandHolds(t, table, forms, s)
		if more == 0 {
			return
		}
		for _, piece := range []string{"A", "B", " ", ".", "..", "B..A"} {
			grow(s+piece, more-1)
		}
	}
	grow("", 7)
}
