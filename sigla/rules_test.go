package sigla

import (
	"slices"
	"strings"
	"testing"
	"unsafe"

	"variorum/api"
)

// R2: beside an error there is nothing.
func TestNothingBesideFaults(t *testing.T) {
	for _, s := range []string{"A", "A a\nA a\n", "A a\nB", textOf(numbered(101))} {
		if table, f := Parse(s); table != nil || f.Code == 0 {
			t.Errorf("Parse(%.80q) = %v, %v", s, table, f)
		}
	}
	for _, s := range []string{"F", "A F", "A..C ", "B..A"} {
		if keys, f := Expand(five(), s); keys != nil || f.Code == 0 {
			t.Errorf("Expand(%q) = %v, %v", s, keys, f)
		}
	}
}

// R3: what a call answers does not hang on earlier ones.
func TestNoState(t *testing.T) {
	for range 3 {
		for _, x := range lists() {
			compacts(t, x.t, x.keys, x.s)
			lacks(t, five(), words("B A F"), noKey(2))
			expands(t, x.t, x.s, x.keys)
			denies(t, five(), "B F", noKey(1))
			back(t, x.t)
			faulty(t, "A a\nA a\n", 131, 1)
			lacks(t, invalid()[0], words("A"), noTable())
		}
	}
}

// R4: arguments stay as they are.
func TestArguments(t *testing.T) {
	for _, table := range append(invalid(), five(), numbered(100), nil) {
		kept := slices.Clone(table)
		for _, l := range [][]string{words("E C A B A"), words("B X A"), nil} {
			had := slices.Clone(l)
			Compact(table, l)
			if !slices.Equal(l, had) {
				t.Errorf("the keys %q are now %q", had, l)
			}
		}
		Expand(table, "E A..C")
		May(table)
		Print(table)
		Find(table, "C")
		if !slices.Equal(table, kept) {
			t.Errorf("the table %v is now %v", kept, table)
		}
	}
}

// within tells whether a text lies in another one's memory.
func within(part, s string) bool {
	from, at := uintptr(unsafe.Pointer(unsafe.StringData(s))), uintptr(unsafe.Pointer(unsafe.StringData(part)))
	return at >= from && at < from+uintptr(len(s))
}

// R4: a result is new memory, and so are the elements of its lists.
func TestNewMemory(t *testing.T) {
	text := strings.Clone("Ab Codex\nB b\nC c\n")
	table, _ := Parse(text)
	for _, x := range table {
		if within(x.Key, text) || within(x.Name, text) {
			t.Errorf("%q lies in the text", x)
		}
	}
	again, _ := Parse(text)
	again[0].Key = "X"
	if table[0].Key != "Ab" {
		t.Error("two tables share their sigla")
	}
	for _, keys := range [][]string{{"Ab"}, {"B"}, {"Ab", "B", "C"}} {
		s, _ := Compact(table, keys)
		for _, x := range table {
			if within(s, x.Key) {
				t.Errorf("%q lies in the table", s)
			}
		}
	}
	list := strings.Clone("Ab..C B")
	one, _ := Expand(table, list)
	for _, key := range one {
		if within(key, list) || within(key, table[0].Key) || within(key, table[1].Key) || within(key, table[2].Key) {
			t.Errorf("%q lies in an argument", key)
		}
	}
	two, _ := Expand(table, list)
	one[0] = "X"
	if two[0] != "Ab" || table[0].Key != "Ab" {
		t.Error("two lists share their keys")
	}
}

// R5: an empty list and none are the same.
func TestEmpty(t *testing.T) {
	for _, table := range [][]api.Siglum{nil, {}} {
		if !May(table) || Print(table) != "" || Find(table, "") != -1 || Find(table, "A") != -1 {
			t.Error("a table of no sigla")
		}
		for _, keys := range [][]string{nil, {}} {
			compacts(t, table, keys, "")
			compacts(t, five(), keys, "")
		}
		expands(t, table, "", nil)
		expands(t, five(), "", nil)
		lacks(t, table, words("A"), noKey(0))
		denies(t, table, "A", noKey(0))
	}
	if table, f := Parse(""); len(table) != 0 || f != (api.Fault{}) {
		t.Errorf("Parse of nothing: %v, %v", table, f)
	}
}

// P1, R1: arguments of a great length end in good time.
func TestLong(t *testing.T) {
	const many = 1 << 20
	faulty(t, strings.Repeat("\n", many), 130, 0)
	faulty(t, strings.Repeat("A a\n", many), 131, 1)
	faulty(t, textOf(numbered(many/8)), 132, 100)
	for _, s := range []string{"A", " ", ".", "\xff", "A ", "A a"} {
		faulty(t, strings.Repeat(s, many), 130, 0)
		faulty(t, strings.Repeat(s, many)+"\n", 130, 0)
		faulty(t, "A a\n"+strings.Repeat(s, many), 130, 1)
		long := strings.Repeat(s, many)
		refused(t, of(long, "a"))
		refused(t, of("A", long))
		if Find(five(), long) != -1 || Find(of(long, "a"), long) != 0 {
			t.Errorf("a key of %d bytes is not searched", len(long))
		}
	}
	refused(t, slices.Repeat(keyed("A"), many))
	refused(t, make([]api.Siglum, many))
	full := numbered(100)
	compacts(t, full, slices.Repeat([]string{"k99", "k0"}, many), "k0 k99")
	lacks(t, full, append(slices.Repeat([]string{"k99"}, many), "k100"), noKey(many))
	expands(t, full, strings.Repeat("k99 ", many)+"k0", append(slices.Repeat([]string{"k99"}, many), "k0"))
	denies(t, full, strings.Repeat("k0 ", many), noKey(many))
	if keys, f := Expand(full, strings.Repeat("k0..k99 ", many/64)+"k1"); len(keys) != 100*many/64+1 || f != (api.Fault{}) {
		t.Errorf("%d keys, %v", len(keys), f)
	}
	denies(t, full, strings.Repeat(" ", many), noKey(0))
	denies(t, full, "k0"+strings.Repeat(" ", many), noKey(1))
}
