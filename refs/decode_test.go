package refs

import (
	"regexp"
	"strconv"
	"strings"
	"testing"

	"variorum/api"
)

func decodes(t *testing.T, s string, prev api.Ref, has bool, wantA, wantB api.Ref) {
	t.Helper()
	a, b, ok := Decode(s, prev, has)
	if !ok || a != wantA || b != wantB {
		t.Errorf("Decode(%.80q, %v, %t) = %v, %v, %t, not %v, %v", s, prev, has, a, b, ok, wantA, wantB)
	}
}

func fails(t *testing.T, s string, prev api.Ref, has bool) {
	t.Helper()
	a, b, ok := Decode(s, prev, has)
	if ok || a != (api.Ref{}) || b != (api.Ref{}) {
		t.Errorf("Decode(%.80q, %v, %t) = %v, %v, %t", s, prev, has, a, b, ok)
	}
}

// P17.2: the empty text is the previous reference, twice.
func TestDecodeEmpty(t *testing.T) {
	for _, prev := range append(small(2, 2, 2), ref("999999.999999:999999")) {
		decodes(t, "", prev, true, prev, prev)
		fails(t, "", prev, false)
	}
	for _, prev := range no() {
		fails(t, "", prev, true)
		fails(t, "", prev, false)
	}
}

// P17.2: behind a reference that is not valid nothing is decoded.
func TestDecodeInvalid(t *testing.T) {
	for _, prev := range no() {
		for _, s := range []string{"", "0", "5", "3.5", "3.5-7", "5-7", "5-:1", "4.5", "-1.5", "1000000.5", Format(prev, prev, prev, false)} {
			fails(t, s, prev, true)
		}
	}
}

// P17.2: what no reference is printed as, behind page 3, line 5.
func TestDecodeNone(t *testing.T) {
	prev := ref("3.5")
	for _, s := range []string{
		// What should have been left out.
		"3.5", "3.6", "3.5-7", "3.6-3.7", "4.6-4.7", "5", "4.5-5", "4.5-4.5", "6-6", "6-3.6", "6:0", "4.6:0", "6:1-6:2", "6:1-6", "6-6:1", "6:1-:1", "6-:0",
		"6-7:0", "6-4.7:0",
		// What should not have been left out.
		":1", ":1-:2", ".", "6.", ".6", "6-", "-6", "-", "6--7", "6-7-8", "-:1", "6:", "6-:", "6:-:1", "6-4.", "6-.7", "4.:1", "4.-5", "6-4.:1", "4.", "6-:1:2", "4.5.6", "6-4.5.6", "6:1:2", "1:6.2",
		"4:1.6", "6-:1.2", "6-1:2.3",
		// Numbers that are written otherwise.
		"06", "00", "6:01", "04.6", "4.06", "6-07", "6-:01", "6-04.1", "+6", "6:+1", "+4.6", "6-+7", "6-:+1", "-6", "6--7", "6-:-1", "6:-1", "4.-6", "6_0", "1_0.1", "0x6", "6e0", "6-0x7",
		"6a", "a6", " 6", "6 ", "6 -7", "6- 7", "4. 6", "6\n", "6\x00", "\xff", "\u0666", "6\u0660", "6-\u0667", "6\u20137",
		// Numbers that are too great.
		"1000000", "9999999", "1000000.6", "4.1000000", "6:1000000", "6-1000000", "6-:1000000", "6-1000000.1", "0000006", "000006", "4294967302", "18446744073709551622", "6-18446744073709551623",
	} {
		fails(t, s, prev, true)
	}
	for _, s := range []string{"3.5-3.7", "3.5:1-5:2", "3.5-3.5", "3.5-5", "3.5:0", "3.5-:0", "3.5:1-:1", "5", "5-7", "5-4.1", "", "3.", ".5", "3.5-4.5:0", "03.5", "3.5.7", "3.5-", "3.5-3."} {
		fails(t, s, prev, false)
	}
}

const (
	any0 = `(0|[1-9][0-9]{0,5})`
	any1 = `([1-9][0-9]{0,5})`
	one  = `(?:` + any0 + `\.)?` + any0 + `(?::` + any1 + `)?`
)

// form is the form of texts that are not empty.
var form = regexp.MustCompile(`^` + one + `(?:-(?:` + one + `|:` + any0 + `))?$`)

// meant is what a text tells by the chapter's words taken another way: by its
// form, and by what each part that is there or is not tells of the others.
func meant(s string, prev api.Ref, has bool) (a, b api.Ref, ok bool) {
	if s == "" {
		return prev, prev, has
	}
	m := form.FindStringSubmatch(s)
	if m == nil {
		return a, b, false
	}
	a = api.Ref{Page: value(m[1]), Line: value(m[2]), Sub: value(m[3])}
	if m[1] == "" {
		a.Page = prev.Page
	}
	if (m[1] == "") != (has && a.Page == prev.Page) {
		return a, b, false
	}
	switch {
	case !strings.Contains(s, "-"):
		return a, a, !has || a != prev
	case m[7] != "":
		b = api.Ref{Page: a.Page, Line: a.Line, Sub: value(m[7])}
		return a, b, a.Sub != b.Sub
	case m[4] != "":
		b = api.Ref{Page: value(m[4]), Line: value(m[5]), Sub: value(m[6])}
		return a, b, a.Page != b.Page
	}
	b = api.Ref{Page: a.Page, Line: value(m[5]), Sub: value(m[6])}
	return a, b, a.Line != b.Line
}

func value(digits string) int {
	n, _ := strconv.Atoi(digits)
	return n
}

// asMeant holds one text against the chapter's words.
func asMeant(t *testing.T, s string, prev api.Ref, has bool) {
	t.Helper()
	if a, b, ok := meant(s, prev, has); ok {
		decodes(t, s, prev, has, a, b)
		if got := Format(a, b, prev, has); got != s {
			t.Errorf("Format(%v, %v, %v, %t) = %q, not %q", a, b, prev, has, got, s)
		}
	} else {
		fails(t, s, prev, has)
	}
}

// P17.2: all short texts out of what references are written with.
func TestAllTexts(t *testing.T) {
	each([]byte("012.:-"), 7, func(text []byte) {
		s := string(text)
		asMeant(t, s, api.Ref{Page: 2, Line: 1, Sub: 1}, true)
		asMeant(t, s, api.Ref{Page: 2, Line: 1, Sub: 1}, false)
		if len(s) < 6 {
			asMeant(t, s, api.Ref{Page: 0, Line: 1}, true)
			asMeant(t, s, api.Ref{Page: 1, Line: 0}, true)
			asMeant(t, s, api.Ref{}, true)
			asMeant(t, s, api.Ref{}, false)
		}
	})
}

// P17.2: texts with each byte left out, put in or changed.
func TestEdits(t *testing.T) {
	bytes := []string{"", "0", "1", "9", ".", ":", "-", "+", "_", " ", "x", "\x00", "\xff"}
	for _, s := range []string{
		"3.5", "3.5-7", "6:1-:2", "6:1-4.1", "6:1-:0", "4.1-3.6:2", "0.0", "10.20:30-40.50:60",
		"999999.999999:999999-999998.999999:999999", "999999:999999-:999998", "4.9:10-10:9",
	} {
		for at := range len(s) + 1 {
			for _, put := range bytes {
				asMeant(t, s[:at]+put+s[at:], ref("3.5"), true)
				asMeant(t, s[:at]+put+s[at:], ref("3.5"), false)
				if at < len(s) {
					asMeant(t, s[:at]+put+s[at+1:], ref("3.5"), true)
					asMeant(t, s[:at]+put+s[at+1:], ref("3.5"), false)
				}
			}
		}
	}
}
