package fault

import (
	"errors"
	"math"
	"slices"
	"strconv"
	"strings"
	"testing"

	"variorum/api"
)

// chains are read back from their texts: their stage names are valid, and
// their At is -1 or greater.
var chains = []struct {
	f      api.Fault
	stages []string
	text   string
}{
	{api.Fault{Code: 40, At: 7}, []string{"edition", "lexer"}, "edition: lexer: fault 40 at 7"},
	{api.Fault{Code: 3, At: -1}, nil, "fault 3"},
	{api.Fault{Code: 3, At: 0}, nil, "fault 3 at 0"},
	{api.Fault{}, nil, "fault 0 at 0"},
	{api.Fault{Code: 0, At: -1}, []string{"z"}, "z: fault 0"},
	{api.Fault{Code: -1, At: 10}, []string{"a"}, "a: fault -1 at 10"},
	{api.Fault{Code: -90, At: -1}, []string{"a", "a", "a"}, "a: a: a: fault -90"},
	{api.Fault{Code: 261, At: -1}, []string{"fault"}, "fault: fault 261"},
	{api.Fault{Code: 1, At: 2}, []string{"at", "fault", "at"}, "at: fault: at: fault 1 at 2"},
	{api.Fault{Code: 5, At: 1}, []string{"abcdefghijklmnopqrstuvwxyz"}, "abcdefghijklmnopqrstuvwxyz: fault 5 at 1"},
	{api.Fault{Code: math.MaxInt, At: math.MaxInt}, nil, "fault 9223372036854775807 at 9223372036854775807"},
	{api.Fault{Code: math.MinInt, At: -1}, nil, "fault -9223372036854775808"},
}

// oddChains are printed and found like the others, but not read back.
var oddChains = []struct {
	f      api.Fault
	stages []string
	text   string
}{
	{api.Fault{Code: 4, At: -2}, nil, "fault 4"},
	{api.Fault{Code: 4, At: math.MinInt}, []string{"a"}, "a: fault 4"},
	{api.Fault{Code: 4, At: 1}, []string{""}, ": fault 4 at 1"},
	{api.Fault{Code: 4, At: 1}, []string{"A", "", "b c"}, "A: : b c: fault 4 at 1"},
	{api.Fault{Code: 4, At: 1}, []string{"a: b"}, "a: b: fault 4 at 1"},
	{api.Fault{Code: 4, At: 1}, []string{"\xff\x00é\n"}, "\xff\x00é\n: fault 4 at 1"},
	{api.Fault{Code: 4, At: 1}, []string{"fault 9 at 9"}, "fault 9 at 9: fault 4 at 1"},
}

// P1.1: the text of a chain.
func TestText(t *testing.T) {
	for _, c := range append(slices.Clone(chains), oddChains...) {
		if s := Text(c.f, c.stages); s != c.text {
			t.Errorf("Text(%v, %q) = %q, not %q", c.f, c.stages, s, c.text)
		}
	}
}

// P1.1, P1.4: a fault and its stages are found as they were wrapped.
func TestFind(t *testing.T) {
	for _, c := range append(slices.Clone(chains), oddChains...) {
		f, stages := Find(c.f, c.stages)
		if f != c.f || !slices.Equal(stages, c.stages) {
			t.Errorf("Find(%v, %q) = %v, %q", c.f, c.stages, f, stages)
		}
	}
}

// P1.1: a chain has the code of its fault and no other one.
func TestHas(t *testing.T) {
	for _, c := range append(slices.Clone(chains), oddChains...) {
		if !Has(c.f, c.stages, c.f.Code) {
			t.Errorf("Has(%v, %q, %d) = false", c.f, c.stages, c.f.Code)
		}
		for _, other := range []api.Errno{c.f.Code - 1, c.f.Code + 1, -c.f.Code, api.Errno(c.f.At)} {
			if other != c.f.Code && Has(c.f, c.stages, other) {
				t.Errorf("Has(%v, %q, %d) = true", c.f, c.stages, other)
			}
		}
	}
}

// P1.2, P1.4, and P2 for faults: chains are read back from their texts.
func TestReadChains(t *testing.T) {
	for _, c := range chains {
		f, stages, ok := Read(c.text)
		if f != c.f || !slices.Equal(stages, c.stages) || !ok {
			t.Errorf("Read(%q) = %v, %q, %v", c.text, f, stages, ok)
		}
		if s := Text(f, stages); s != c.text {
			t.Errorf("%q is printed as %q", c.text, s)
		}
	}
}

// P1.2: what is no text of a valid chain is refused, with zero values.
func TestReadRefuses(t *testing.T) {
	texts := []string{
		"", " ", ":", ": ", "a", "a:", "a: ", "a: b", "a: b: ",
		"fault", "fault ", "fault:", "fault: ", "fault x", "fault 4x", "fault x4", "faults 4", "afault 4",
		"fault 04", "fault 00", "fault -0", "fault -04", "fault +4", "fault - 4", "fault --4", "fault 1_000", "fault 0x10", "fault 4.0", "fault 1e3", "fault ٣",
		"fault 9223372036854775808", "fault -9223372036854775809", "fault 99999999999999999999",
		"fault 4 ", " fault 4", "fault  4", "fault\t4", "fault 4\n", "fault 4\x00", "\ufefffault 4", "Fault 4", "FAULT 4",
		"fault 4 at", "fault 4 at ", "fault 4 at x", "fault 4 at -1", "fault 4 at -7", "fault 4 at 05", "fault 4 at 00", "fault 4 at -0", "fault 4 at +5",
		"fault 4 at 5 ", "fault 4 at  5", "fault 4  at 5", "fault 4 at 5 at 6", "fault 4 at 5x", "fault 4 at 9223372036854775808",
		"fault 4 for 5", "fault 4 AT 5", "fault at 5", "fault  at 5", "fault 4 5", "fault 4at 5", "fault 4 at5", "4 at 5", "at 5", " at 5",
		"a:fault 4", "a fault 4", "a : fault 4", "a:  fault 4", " a: fault 4", "a:b: fault 4", "a:: fault 4", "a: : fault 4", ": fault 4", ": a: fault 4",
		"Edition: fault 4", "edition: Lexer: fault 4", "a1: fault 4", "1: fault 4", "a-b: fault 4", "a b: fault 4", "é: fault 4", "a`: fault 4", "a{: fault 4", "\xff: fault 4",
		"fault 4: fault 4", "fault 4 at 5: fault 4", "a: fault 4: ", "a: fault 4: b", "fault 4: a", "fault 4 at 5: a",
	}
	for _, s := range texts {
		f, stages, ok := Read(s)
		if ok || f != (api.Fault{}) || len(stages) != 0 {
			t.Errorf("Read(%q) = %v, %q, %v", s, f, stages, ok)
		}
	}
}

// P1.2: every text that is read is the text of what was read, and of no other
// chain; tried on all short texts over the bytes that matter.
func TestReadShortTexts(t *testing.T) {
	parts := []string{"a", "fault", ":", " ", "at", "0", "5", "-", "A"}
	read := 0
	var grow func(s string, more int)
	grow = func(s string, more int) {
		f, stages, ok := Read(s)
		if ok {
			read++
			if Text(f, stages) != s || f.At < -1 {
				t.Errorf("Read(%q) = %v, %q", s, f, stages)
			}
			for _, name := range stages {
				if !lowerLetters(name) {
					t.Errorf("Read(%q) has the stage %q", s, name)
				}
			}
		}
		if more > 0 {
			for _, p := range parts {
				grow(s+p, more-1)
			}
		}
	}
	grow("", 6)
	if read == 0 {
		t.Error("no text was read")
	}
}

func lowerLetters(s string) bool {
	return s != "" && strings.Trim(s, "abcdefghijklmnopqrstuvwxyz") == ""
}

// P1.4: different chains have different texts, and are read back.
func TestChainsDiffer(t *testing.T) {
	names := [][]string{nil, {"a"}, {"b"}, {"ab"}, {"a", "b"}, {"b", "a"}, {"a", "a"}, {"at"}, {"fault"}, {"fault", "at"}}
	seen := map[string]bool{}
	for _, stages := range names {
		for code := api.Errno(-12); code <= 12; code++ {
			for at := -1; at <= 12; at++ {
				want := api.Fault{Code: code, At: at}
				s := Text(want, stages)
				if seen[s] {
					t.Errorf("two chains have the text %q", s)
				}
				seen[s] = true
				f, l, ok := Read(s)
				if f != want || !slices.Equal(l, stages) || !ok {
					t.Errorf("Read(%q) = %v, %q, %v", s, f, l, ok)
				}
			}
		}
	}
}

// P1.4: however often a fault was wrapped, it is found unchanged and read back.
func TestWrappedAgain(t *testing.T) {
	want := api.Fault{Code: api.ErrUtf, At: 12}
	var stages []string
	for n := range 300 {
		f, l := Find(want, stages)
		if f != want || !slices.Equal(l, stages) || !Has(want, stages, want.Code) {
			t.Fatalf("in %d stages: %v, %q", n, f, l)
		}
		f, l, ok := Read(Text(want, stages))
		if f != want || !slices.Equal(l, stages) || !ok {
			t.Fatalf("in %d stages: read as %v, %q, %v", n, f, l, ok)
		}
		stages = append([]string{strings.Repeat(string(rune('a'+n%26)), n/26+1)}, stages...)
	}
}

// P1.3: the smallest At, then the smallest Code, among the errors.
func TestFirst(t *testing.T) {
	cases := []struct {
		l    []api.Fault
		want api.Fault
		ok   bool
	}{
		{nil, api.Fault{}, false},
		{[]api.Fault{{}}, api.Fault{}, false},
		{[]api.Fault{{Code: 0, At: -5}, {Code: 0, At: 3}}, api.Fault{}, false},
		{[]api.Fault{{Code: 4, At: 5}}, api.Fault{Code: 4, At: 5}, true},
		{[]api.Fault{{}, {Code: 9, At: 8}, {Code: 40, At: 7}, {Code: 50, At: 7}}, api.Fault{Code: 40, At: 7}, true},
		{[]api.Fault{{Code: 50, At: 7}, {Code: 40, At: 7}, {Code: 9, At: 8}}, api.Fault{Code: 40, At: 7}, true},
		{[]api.Fault{{Code: 1, At: 2}, {Code: 90, At: 1}}, api.Fault{Code: 90, At: 1}, true},
		{[]api.Fault{{Code: 90, At: 1}, {Code: 1, At: 2}}, api.Fault{Code: 90, At: 1}, true},
		{[]api.Fault{{Code: 4, At: 0}, {Code: 5, At: -1}}, api.Fault{Code: 5, At: -1}, true},
		{[]api.Fault{{Code: 4, At: -1}, {Code: 5, At: -2}}, api.Fault{Code: 5, At: -2}, true},
		{[]api.Fault{{Code: 0, At: 0}, {Code: 5, At: 9}, {Code: 0, At: 9}}, api.Fault{Code: 5, At: 9}, true},
		{[]api.Fault{{Code: 1, At: 3}, {Code: -1, At: 3}}, api.Fault{Code: -1, At: 3}, true},
		{[]api.Fault{{Code: math.MaxInt, At: math.MaxInt}}, api.Fault{Code: math.MaxInt, At: math.MaxInt}, true},
		{[]api.Fault{{Code: math.MaxInt, At: math.MinInt}, {Code: math.MinInt, At: math.MaxInt}, {Code: math.MinInt, At: math.MinInt}}, api.Fault{Code: math.MinInt, At: math.MinInt}, true},
		{[]api.Fault{{Code: 7, At: 7}, {Code: 7, At: 7}}, api.Fault{Code: 7, At: 7}, true},
	}
	for _, c := range cases {
		if f, ok := First(c.l); f != c.want || ok != c.ok {
			t.Errorf("First(%v) = %v, %v", c.l, f, ok)
		}
	}
}

// P1, R1: chains and texts of a great length end in good time.
func TestLong(t *testing.T) {
	const many = 1 << 20
	stages := make([]string, many)
	for i := range stages {
		stages[i] = string(rune('a' + i%26))
	}
	want := api.Fault{Code: 40, At: 7}
	f, l := Find(want, stages)
	if f != want || !slices.Equal(l, stages) || !Has(want, stages, 40) || Has(want, stages, 41) {
		t.Error("a long chain is not found unchanged")
	}
	f, l, ok := Read(Text(want, stages))
	if f != want || !slices.Equal(l, stages) || !ok {
		t.Error("a long chain is not read back")
	}
	for _, s := range []string{
		strings.Repeat(": ", many), strings.Repeat("a: ", many), strings.Repeat("fault ", many),
		"fault " + strings.Repeat("9", many), "fault 1" + strings.Repeat(" at 1", many),
		strings.Repeat("a", many), strings.Repeat("\x00", many),
	} {
		if _, _, ok := Read(s); ok {
			t.Errorf("%d bytes are read: %q..", len(s), s[:12])
		}
	}
	name := strings.Repeat("a", many)
	if f, l, ok := Read(Text(want, []string{name})); f != want || !slices.Equal(l, []string{name}) || !ok {
		t.Error("a long name is not read back")
	}
	faults := slices.Repeat([]api.Fault{{}, {Code: 9, At: 8}}, many)
	faults = append(faults, want)
	if f, ok := First(faults); f != want || !ok {
		t.Error("the last of many faults is not the first one")
	}
}

// R3: an answer does not hang on earlier calls.
func TestNothingKept(t *testing.T) {
	for range 2 {
		for _, c := range chains {
			First([]api.Fault{c.f})
			Read("a: b: fault 1 at 2")
			Find(api.Fault{Code: 8, At: 8}, []string{"x", "y"})
			f, stages := Find(c.f, c.stages)
			if Text(c.f, c.stages) != c.text || f != c.f || !slices.Equal(stages, c.stages) {
				t.Errorf("%q: changed by other calls", c.text)
			}
			if _, ok := First(nil); ok {
				t.Error("First keeps a fault")
			}
		}
	}
}

// R4: arguments stay as they are, and results share no memory with them.
func TestNothingShared(t *testing.T) {
	want := []string{"edition", "lexer"}
	back := append(slices.Clone(want), "spare", "spare")
	stages := back[:2]
	f := api.Fault{Code: 40, At: 7}
	Text(f, stages)
	Has(f, stages, 40)
	_, one := Find(f, stages)
	_, two := Find(f, stages)
	_, three, _ := Read("edition: lexer: fault 40 at 7")
	_, four, _ := Read("edition: lexer: fault 40 at 7")
	for _, l := range [][]string{one, two, three, four} {
		if !slices.Equal(l, want) {
			t.Errorf("%q", l)
		}
		for i := range l {
			l[i] = "changed"
		}
		for i := range l[:cap(l)] {
			l[:cap(l)][i] = "changed"
		}
	}
	if !slices.Equal(stages, want) || back[2] != "spare" || back[3] != "spare" {
		t.Errorf("the stages became %q", back)
	}
	_, five := Find(f, stages)
	stages[0] = "other"
	if !slices.Equal(five, want) {
		t.Errorf("a result became %q", five)
	}
	faults := []api.Fault{{Code: 9, At: 8}, {}, f, {Code: 1, At: 7}}
	kept := slices.Clone(faults)
	First(faults)
	if !slices.Equal(faults, kept) {
		t.Errorf("the faults became %v", faults)
	}
}

// R5: empty and nil lists are the same.
func TestEmpty(t *testing.T) {
	f := api.Fault{Code: 4, At: 2}
	for _, none := range [][]string{nil, {}} {
		g, stages := Find(f, none)
		if Text(f, none) != "fault 4 at 2" || g != f || len(stages) != 0 || !Has(f, none, 4) || Has(f, none, 5) {
			t.Errorf("%#v: %v, %q", none, g, stages)
		}
	}
	for _, none := range [][]api.Fault{nil, {}} {
		if g, ok := First(none); g != (api.Fault{}) || ok {
			t.Errorf("%#v: %v", none, g)
		}
	}
}

// Ways: the error type embeds the fault, and errors.As and errors.Is find it
// through stages and through an error that is none of this package.
func TestErrors(t *testing.T) {
	f := api.Fault{Code: 40, At: 7}
	for _, err := range []error{wrap(f, nil), wrap(f, []string{"a", "b"}), errors.Join(errors.New("other"), wrap(f, []string{"a"}))} {
		var found failure
		if !errors.As(err, &found) || found.Fault != f || found.Code != 40 || found.At != 7 {
			t.Errorf("%v: found %v", err, found)
		}
		if !errors.Is(err, failure{api.Fault{Code: 40}}) || errors.Is(err, failure{api.Fault{Code: 7, At: 7}}) || errors.Is(err, errors.ErrUnsupported) {
			t.Errorf("%v: errors.Is", err)
		}
	}
}

// P1.2: all numbers near the edges of their digits are read as printed.
func TestNumbers(t *testing.T) {
	for _, n := range []int{0, 1, 9, 10, 99, 100, math.MaxInt32, math.MaxInt32 + 1, math.MaxInt - 1, math.MaxInt} {
		for _, code := range []int{n, -n} {
			s := "fault " + strconv.Itoa(code) + " at " + strconv.Itoa(n)
			f, _, ok := Read(s)
			if f != (api.Fault{Code: api.Errno(code), At: n}) || !ok {
				t.Errorf("Read(%q) = %v, %v", s, f, ok)
			}
		}
	}
}
