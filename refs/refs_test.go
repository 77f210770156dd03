package refs

import (
	"math"
	"slices"
	"strconv"
	"strings"
	"testing"

	"variorum/api"
)

// ref is the reference that a text tells: 3.5 is page 3, line 5, and 3.5:1 its
// sub-line 1; any of the numbers may be negative.
func ref(text string) api.Ref {
	page, line, _ := strings.Cut(text, ".")
	line, sub, _ := strings.Cut(line, ":")
	var r api.Ref
	r.Page, _ = strconv.Atoi(page)
	r.Line, _ = strconv.Atoi(line)
	r.Sub, _ = strconv.Atoi(sub)
	return r
}

// small are all references whose numbers are from 0 to these.
func small(page, line, sub int) []api.Ref {
	var all []api.Ref
	for p := range page + 1 {
		for l := range line + 1 {
			for s := range sub + 1 {
				all = append(all, api.Ref{Page: p, Line: l, Sub: s})
			}
		}
	}
	return all
}

// no are references that are not valid, each but for one number or for all.
func no() []api.Ref {
	var all []api.Ref
	for _, n := range []int{-1, -2, -3, -999999, 1000000, 1000001, 9999999, math.MinInt32, math.MaxInt32, 1 << 32, 1<<32 + 3, -1 << 32, math.MinInt, math.MaxInt} {
		all = append(all, api.Ref{Page: n, Line: 5}, api.Ref{Page: 3, Line: n}, api.Ref{Page: 3, Line: 5, Sub: n}, api.Ref{Page: n, Line: n, Sub: n})
	}
	return all
}

// formats holds one text against Format and Decode; a prev of "" is none.
func formats(t *testing.T, a, b, prev, want string) {
	t.Helper()
	has := prev != ""
	if got := Format(ref(a), ref(b), ref(prev), has); got != want {
		t.Errorf("Format(%s, %s, %q) = %q, not %q", a, b, prev, got, want)
	}
	decodes(t, want, ref(prev), has, ref(a), ref(b))
}

// P17.1, P2: texts, worked out by hand, and what they are decoded to.
func TestFormat(t *testing.T) {
	for _, c := range [][4]string{
		// The chapter's examples.
		{"3.5", "3.7", "", "3.5-7"},
		{"3.5", "3.5", "3.5", ""},
		{"3.6:1", "3.6:2", "3.5", "6:1-:2"},
		{"3.6:1", "4.1", "3.6:1", "6:1-4.1"},
		// No previous reference.
		{"3.5", "3.5", "", "3.5"},
		{"3.5:2", "3.5:2", "", "3.5:2"},
		{"0.0", "0.0", "", "0.0"},
		{"0.0:1", "0.0", "", "0.0:1-:0"},
		{"0.0", "0.0:1", "", "0.0-:1"},
		{"3.5", "4.5", "", "3.5-4.5"},
		{"3.5:1", "4.5:1", "", "3.5:1-4.5:1"},
		{"3.5:1", "3.6:1", "", "3.5:1-6:1"},
		{"3.5:1", "3.6", "", "3.5:1-6"},
		{"3.7", "3.5", "", "3.7-5"},
		{"4.1", "3.9", "", "4.1-3.9"},
		{"3.5:2", "3.5:1", "", "3.5:2-:1"},
		// The page of the previous reference.
		{"3.5", "3.5", "3.6", "5"},
		{"3.5", "3.5", "3.5:1", "5"},
		{"3.5:1", "3.5:1", "3.5", "5:1"},
		{"3.5", "3.5", "2.5", "3.5"},
		{"3.5", "3.7", "3.5", "5-7"},
		{"3.5", "3.7", "3.7", "5-7"},
		{"3.5", "4.5", "4.5", "3.5-4.5"},
		{"3.5", "4.5", "3.5", "5-4.5"},
		{"3.5:1", "3.5", "3.5", "5:1-:0"},
		{"3.5:1", "3.5", "3.5:1", "5:1-:0"},
		{"0.5", "0.5", "0.0", "5"},
		{"0.0", "0.0", "0.0", ""},
		{"0.0", "0.0", "1.0", "0.0"},
		{"0.0", "0.0", "0.1", "0"},
		{"0.0", "0.0", "0.0:1", "0"},
		{"3.5:1", "3.5:1", "3.5:1", ""},
		// The greatest numbers.
		{"999999.999999:999999", "999999.999999:999999", "", "999999.999999:999999"},
		{"999999.999999:999999", "999998.999999:999999", "", "999999.999999:999999-999998.999999:999999"},
		{"999999.999999:999999", "999999.999999", "999999.0", "999999:999999-:0"},
		{"999999.999999:999999", "999999.999999:999999", "999999.999999:999999", ""},
		{"100000.10:100", "100000.100:10", "", "100000.10:100-100:10"},
	} {
		formats(t, c[0], c[1], c[2], c[3])
	}
}

// P17.1: where there is no previous reference, what is handed in as one is
// nothing.
func TestNoPrevious(t *testing.T) {
	a, b := ref("3.5"), ref("3.7")
	for _, prev := range slices.Concat(no(), small(4, 6, 1)) {
		if got := Format(a, b, prev, false); got != "3.5-7" {
			t.Errorf("Format(%v, %v, %v, false) = %q", a, b, prev, got)
		}
		if got := Format(a, a, prev, false); got != "3.5" {
			t.Errorf("Format(%v, %v, %v, false) = %q", a, a, prev, got)
		}
		decodes(t, "3.5-7", prev, false, a, b)
		decodes(t, "3.5", prev, false, a, a)
		fails(t, "", prev, false)
		fails(t, "5", prev, false)
		fails(t, "5-7", prev, false)
		fails(t, "-1.5", prev, false)
	}
}

// P17.1: of a reference that is not valid there is no text.
func TestFormatInvalid(t *testing.T) {
	valid := ref("3.5")
	for _, r := range no() {
		for _, c := range [][3]api.Ref{
			{r, valid, valid}, {valid, r, valid}, {r, r, valid}, {r, r, r}, {r, valid, r}, {valid, r, r},
		} {
			for _, has := range []bool{false, true} {
				if got := Format(c[0], c[1], c[2], has); got != "" {
					t.Errorf("Format(%v, %v, %v, %t) = %q", c[0], c[1], c[2], has, got)
				}
			}
		}
		if got := Format(valid, valid, r, true); got != "" {
			t.Errorf("Format(%v, %v, %v, true) = %q", valid, valid, r, got)
		}
		if got := Format(valid, ref("3.7"), r, true); got != "" {
			t.Errorf("Format(%v, 3.7, %v, true) = %q", valid, r, got)
		}
	}
}

// P17.2: valid references, at the bounds of each number.
func TestMay(t *testing.T) {
	for _, r := range no() {
		if May(r) {
			t.Errorf("May(%v)", r)
		}
	}
	ends := []int{0, 1, 9, 10, 99999, 100000, 999998, 999999}
	for _, page := range ends {
		for _, line := range ends {
			for _, sub := range ends {
				if r := (api.Ref{Page: page, Line: line, Sub: sub}); !May(r) {
					t.Errorf("not May(%v)", r)
				}
			}
		}
	}
}

// lineText is the text of a line by the chapter's words.
func lineText(r api.Ref) string {
	if r.Sub > 0 {
		return strconv.Itoa(r.Line) + ":" + strconv.Itoa(r.Sub)
	}
	return strconv.Itoa(r.Line)
}

// oracle is a text by the chapter's words, of valid references.
func oracle(a, b, prev api.Ref, has bool) string {
	var parts []string
	if a == b && has && prev == a {
		return ""
	}
	if !has || prev.Page != a.Page {
		parts = append(parts, strconv.Itoa(a.Page), ".")
	}
	parts = append(parts, lineText(a))
	if b != a {
		parts = append(parts, "-")
		if b.Page != a.Page {
			parts = append(parts, strconv.Itoa(b.Page), ".")
		}
		if b.Page == a.Page && b.Line == a.Line {
			parts = append(parts, ":", strconv.Itoa(b.Sub))
		} else {
			parts = append(parts, lineText(b))
		}
	}
	return strings.Join(parts, "")
}

// P17.1, P17.4, P2: all small references, and some great ones; texts are
// decoded to the same two, and they leave out no more than they may.
func TestAllRefs(t *testing.T) {
	refs := append(small(2, 2, 2), ref("999999.999999:999999"), ref("10.2:1"), ref("1.10"), ref("1.1:10"), ref("999999.2"))
	for _, prev := range refs {
		for _, has := range []bool{false, true} {
			seen := map[string][2]api.Ref{}
			for _, a := range refs {
				for _, b := range refs {
					s := Format(a, b, prev, has)
					if want := oracle(a, b, prev, has); s != want {
						t.Fatalf("Format(%v, %v, %v, %t) = %q, not %q", a, b, prev, has, s, want)
					}
					if pair, twice := seen[s]; twice {
						t.Fatalf("%q is %v and %v, %v behind %v, %t", s, pair, a, b, prev, has)
					}
					seen[s] = [2]api.Ref{a, b}
					decodes(t, s, prev, has, a, b)
					leavesOut(t, s, a, b, prev, has)
				}
			}
		}
	}
}

// leavesOut tells of a text that leaves out what it may not: P17.4.
func leavesOut(t *testing.T, s string, a, b, prev api.Ref, has bool) {
	t.Helper()
	if s == "" && (!has || a != prev || b != prev) {
		t.Errorf("%v and %v behind %v, %t, are empty", a, b, prev, has)
	}
	first, _, _ := strings.Cut(s, "-")
	same := has && prev.Page == a.Page
	if s != "" && strings.Contains(first, ".") == same {
		t.Errorf("%v and %v behind %v, %t, are %q", a, b, prev, has, s)
	}
}

// P17.3: the texts of lists, worked out by hand.
func TestAll(t *testing.T) {
	for list, want := range map[string]string{
		"":                                   "",
		"3.5":                                "",
		"3.5 3.7":                            "3.5-7",
		"3.5 3.7 3.5 3.5 3.6:1 3.6:2":        "3.5-7 _ 6:1-:2",
		"3.6:1 3.6:2 3.6:1 4.1":              "3.6:1-:2 6:1-4.1",
		"3.5 4.1 4.1 4.1 4.1 4.1 4.2 4.2":    "3.5-4.1 4.1 _ 2",
		"3.5 4.1 3.5 3.5 4.1 4.1 3.5 3.5":    "3.5-4.1 _ 4.1 3.5",
		"0.0 0.0 0.0 0.0 0.0 0.0":            "0.0 _ _",
		"0.0 0.1 0.0 0.0":                    "0.0-1 _",
		"3.5 3.5 3.5":                        "3.5",
		"3.5 3.7 3.6 3.6 3.5":                "3.5-7 6",
		"3.7 3.5 3.5 3.5 3.7 3.7":            "3.7-5 5 7",
		"-1.5 -1.5 3.5 3.5 3.5 3.5":          "_ _ _",
		"3.5 -1.5 3.5 3.5 3.6 3.6":           "_ _ 6",
		"3.5 3.5 3.-1 3.5 3.5 3.5 3.6 3.6":   "3.5 _ _ 6",
		"3.5 1000000.1 4.5 4.5 3.5:-1 4.5":   "_ 4.5 _",
		"3.5 3.5 1000000.5 1000000.5 -1.0":   "3.5 _",
		"3.5 3.5 3.5 3.5:1 3.5 3.5 3.5 3.5":  "3.5 5-:1 _ _",
		"3.5:1 3.5 3.5 3.5 3.5 3.5:1 4.5":    "3.5:1-:0 5 5-:1",
		"999999.999999:999999 999999.999999": "999999.999999:999999-:0",
	} {
		var refs []api.Ref
		for _, word := range strings.Fields(list) {
			refs = append(refs, ref(word))
		}
		texts := strings.Fields(want)
		for i := range texts {
			texts[i] = strings.TrimPrefix(texts[i], "_")
		}
		if got := All(refs); !slices.Equal(got, texts) {
			t.Errorf("All(%s) = %q, not %q", list, got, texts)
		}
	}
}

// P17.3, P17.4: all short lists of few references, and what they are decoded
// to one behind the other.
func TestAllLists(t *testing.T) {
	refs := []api.Ref{ref("1.1"), ref("1.1:1"), ref("1.2"), ref("2.1"), ref("-1.1")}
	each(refs, 6, func(l []api.Ref) {
		texts := All(l)
		if len(texts) != len(l)/2 {
			t.Fatalf("All(%v) = %q", l, texts)
		}
		var prev api.Ref
		for i, s := range texts {
			a, b := l[2*i], l[2*i+1]
			if want := Format(a, b, prev, i > 0); s != want {
				t.Errorf("All(%v)[%d] = %q, not %q", l, i, s, want)
			}
			if May(a) && May(b) && (i == 0 || May(prev)) {
				decodes(t, s, prev, i > 0, a, b)
			}
			prev = a
		}
	})
}

// each calls f with every list of up to most elements; f must not keep it.
func each[E any](elements []E, most int, f func([]E)) {
	list := make([]E, 0, most)
	var grow func()
	grow = func() {
		f(list)
		if len(list) == most {
			return
		}
		for _, e := range elements {
			list = append(list, e)
			grow()
			list = list[:len(list)-1]
		}
	}
	grow()
}
