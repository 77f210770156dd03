package utf

import (
	"math"
	"slices"
	"strings"
	"testing"

	"variorum/api"
)

// encoding is that of a letter, by the chapter's words.
func encoding(c rune) string {
	switch {
	case c < 0x80:
		return string([]byte{byte(c)})
	case c < 0x800:
		return string([]byte{0xc0 + byte(c>>6), last(c)})
	case c < 0x10000:
		return string([]byte{0xe0 + byte(c>>12), last(c >> 6), last(c)})
	}
	return string([]byte{0xf0 + byte(c>>18), last(c >> 12), last(c >> 6), last(c)})
}

// last is a byte of 80 plus 6 bits.
func last(c rune) byte { return 0x80 + byte(c&0x3f) }

func isLetter(c rune) bool {
	return c >= 0 && c <= 0x10ffff && (c < 0xd800 || c > 0xdfff)
}

// known has each letter by its encoding.
func known() map[string]rune {
	m := make(map[string]rune, 0x110000)
	for c := rune(0); c <= 0x10ffff; c++ {
		if isLetter(c) {
			m[encoding(c)] = c
		}
	}
	return m
}

// outside are numbers that are not letters, at the bounds.
var outside = []rune{-1, math.MinInt32, math.MaxInt32, 0xd800, 0xd801, 0xdbff, 0xdc00, 0xdffe, 0xdfff, 0x110000, 0x110001, 0x1fffff, 0x200000, -0x80}

// P4.1: each number that might be a letter, and some that might not; P4.1 and
// P4.3 for each letter alone: its encoding, and back.
func TestLetters(t *testing.T) {
	for c := rune(-5000); c < 0x120000; c++ {
		if Letter(c) != isLetter(c) {
			t.Errorf("Letter(%x) = %v", c, Letter(c))
		}
		s, ok := Encode([]rune{c})
		if !isLetter(c) {
			if s != "" || ok {
				t.Errorf("Encode(%x) = %x, %v", c, s, ok)
			}
			continue
		}
		if s != encoding(c) || !ok {
			t.Errorf("Encode(%x) = %x, %v", c, s, ok)
		}
		l, f := Decode(s)
		if len(l) != 1 || l[0] != c || f != (api.Fault{}) {
			t.Errorf("Decode(%x) = %x, %v", s, l, f)
		}
	}
	for _, c := range outside {
		if Letter(c) {
			t.Errorf("%x is a letter", c)
		}
	}
}

// P4.1, R2: one number that is no letter, wherever it stands, and nothing is
// encoded.
func TestEncodeRefuses(t *testing.T) {
	for _, c := range outside {
		for _, l := range [][]rune{{c}, {c, 'a'}, {'a', c}, {'a', 0xe4, c, 'b'}, {c, c}} {
			if s, ok := Encode(l); s != "" || ok {
				t.Errorf("Encode(%x) = %x, %v", l, s, ok)
			}
		}
	}
}

// P4.1, P4.2: texts that consist of encodings.
func TestTexts(t *testing.T) {
	cases := []struct {
		s       string
		letters []rune
		starts  []int
	}{
		{"", nil, nil},
		{"a", []rune{0x61}, []int{0}},
		{"\x00\x00", []rune{0, 0}, []int{0, 1}},
		{"\xc3\xa4", []rune{0xe4}, []int{0}},
		{"\x7f\xc2\x80\xdf\xbf\xe0\xa0\x80", []rune{0x7f, 0x80, 0x7ff, 0x800}, []int{0, 1, 3, 5}},
		{"\xed\x9f\xbf\xee\x80\x80", []rune{0xd7ff, 0xe000}, []int{0, 3}},
		{"\xef\xbf\xbd\xef\xbf\xbe\xef\xbf\xbf", []rune{0xfffd, 0xfffe, 0xffff}, []int{0, 3, 6}},
		{"\xf0\x90\x80\x80\xf4\x8f\xbf\xbf", []rune{0x10000, 0x10ffff}, []int{0, 4}},
		{"\xef\xbb\xbfa\r\n", []rune{0xfeff, 0x61, 13, 10}, []int{0, 3, 4, 5}},
		{"a\xcc\x88b", []rune{0x61, 0x308, 0x62}, []int{0, 1, 3}},
		{"\\p{\u1fb6\U0001f600\u00ad}", []rune{0x5c, 0x70, 0x7b, 0x1fb6, 0x1f600, 0xad, 0x7d}, []int{0, 1, 2, 3, 6, 10, 12}},
	}
	for _, c := range cases {
		if l, f := Decode(c.s); !slices.Equal(l, c.letters) || f != (api.Fault{}) {
			t.Errorf("Decode(%x) = %x, %v", c.s, l, f)
		}
		if l, ok := Starts(c.s); !slices.Equal(l, c.starts) || !ok {
			t.Errorf("Starts(%x) = %v, %v", c.s, l, ok)
		}
		if s, ok := Encode(c.letters); s != c.s || !ok {
			t.Errorf("Encode(%x) = %x, %v", c.letters, s, ok)
		}
	}
}

func faulty(t *testing.T, s string, at int) {
	t.Helper()
	if l, f := Decode(s); len(l) != 0 || f != (api.Fault{Code: api.ErrUtf, At: at}) {
		t.Errorf("Decode(%x) = %x, %v, not at %d", s, l, f, at)
	}
	if l, ok := Starts(s); len(l) != 0 || ok {
		t.Errorf("Starts(%x) = %v, %v", s, l, ok)
	}
}

// P4.1, P4.2, R2: where no encoding begins, and that nothing is answered beside
// the fault.
func TestFaults(t *testing.T) {
	if api.ErrUtf != 40 {
		t.Error("the error has another number than the document's")
	}
	bad := []string{
		"\xe4", "\xc0\x80", "\xed\xa0\x80", // the chapter's examples
		"\x80", "\xbf", "\x80\x80", "\xc3", "\xc3a", "\xc3\xc3\xa4", "\xc3\x7f", "\xc3\xc0", "\xc1\xbf", "\xc0\xaf",
		"\xe0\x80\x80", "\xe0\x9f\xbf", "\xe1", "\xe1\x80", "\xe1\x80a", "\xe1a\x80", "\xe1\x80\xc0", "\xed\xbf\xbf", "\xed\xaf\xbf", "\xef\xbf",
		"\xf0\x80\x80\x80", "\xf0\x8f\xbf\xbf", "\xf0\x90", "\xf0\x90\x80", "\xf0\x90\x80a", "\xf0\x90a\x80", "\xf1\x80\x80\xc0",
		"\xf4\x90\x80\x80", "\xf4\xbf\xbf\xbf", "\xf5\x80\x80\x80", "\xf7\xbf\xbf\xbf", "\xf8\x88\x80\x80\x80", "\xfc\x84\x80\x80\x80\x80", "\xfe", "\xff",
		"\xed\xa0\xbd\xed\xb8\x80",
	}
	for _, s := range bad {
		for _, ahead := range []string{"", "a", "\xc3\xa4", "\xef\xbf\xbd", "\xf4\x8f\xbf\xbf", "ab\x00\xed\x9f\xbf"} {
			for _, behind := range []string{"", "aaaa", "\xf0\x90\x80\x80", "\xff\xff"} {
				faulty(t, ahead+s+behind, len(ahead))
			}
		}
	}
	faulty(t, "\xf0\x90\x80\x80\x80", 4)
	faulty(t, "\xc3\xa4\xa4", 2)
	faulty(t, "ab\xffc\xff", 2)
}

// firstLetter looks for the one encoding that s begins with.
func firstLetter(m map[string]rune, s string) (rune, int) {
	for size := 1; size <= min(4, len(s)); size++ {
		if c, ok := m[s[:size]]; ok {
			return c, size
		}
	}
	return 0, 0
}

// decodeHolds holds s against the encodings of all letters.
func decodeHolds(t *testing.T, m map[string]rune, s string) {
	var letters []rune
	var starts []int
	for at := 0; at < len(s); {
		c, size := firstLetter(m, s[at:])
		if size == 0 {
			faulty(t, s, at)
			return
		}
		letters, starts = append(letters, c), append(starts, at)
		at += size
	}
	l, f := Decode(s)
	if !slices.Equal(l, letters) || f != (api.Fault{}) {
		t.Errorf("Decode(%x) = %x, %v, not %x", s, l, f, letters)
	}
	if l, ok := Starts(s); !slices.Equal(l, starts) || !ok {
		t.Errorf("Starts(%x) = %v, %v, not %v", s, l, ok, starts)
	}
	if back, ok := Encode(l); back != s || !ok {
		t.Errorf("%x is decoded and encoded to %x, %v", s, back, ok)
	}
}

// P4.1, P4.2, P4.3: all texts of one and two bytes, and all of three and four
// whose bytes behind the first lie at the bounds.
func TestShortTexts(t *testing.T) {
	m := known()
	edges := []byte{0, 0x7f, 0x80, 0x8f, 0x90, 0x9f, 0xa0, 0xbf, 0xc0, 0xc2, 0xe0, 0xed, 0xf4, 0xff}
	for a := range 256 {
		decodeHolds(t, m, string([]byte{byte(a)}))
		for b := range 256 {
			decodeHolds(t, m, string([]byte{byte(a), byte(b)}))
		}
		for _, b := range edges {
			for _, c := range edges {
				decodeHolds(t, m, string([]byte{byte(a), b, c}))
				for _, d := range edges {
					decodeHolds(t, m, string([]byte{byte(a), b, c, d}))
				}
			}
		}
	}
}

// P4.3: the letters of long texts come back; so does every letter in one text.
func TestBack(t *testing.T) {
	var all []rune
	for c := rune(0x10ffff); c >= 0; c-- {
		if isLetter(c) {
			all = append(all, c)
		}
	}
	s, ok := Encode(all)
	if len(s) != 0x80+2*0x780+3*(0xf800-0x800)+4*0x100000 || !ok {
		t.Fatalf("%d bytes, %v", len(s), ok)
	}
	l, f := Decode(s)
	if !slices.Equal(l, all) || f != (api.Fault{}) {
		t.Errorf("%d of %d letters, %v", len(l), len(all), f)
	}
	starts, ok := Starts(s)
	if len(starts) != len(all) || !ok {
		t.Fatalf("%d starts of %d letters, %v", len(starts), len(all), ok)
	}
	at := 0
	for i, c := range all {
		if starts[i] != at {
			t.Fatalf("letter %d begins at %d, not %d", i, starts[i], at)
		}
		at += len(encoding(c))
	}
}

// P4.3: what stands four bytes behind the fault, or more, changes nothing.
func TestFaultsAlone(t *testing.T) {
	for a := 0x80; a < 256; a++ {
		for _, middle := range []string{"\x80\x80\x80", "\xbf\xbf\xbf", "\x90\x80a", "a\x80\x80", "\xff\x80\x80"} {
			s := "a\xc3\xa4" + string([]byte{byte(a)}) + middle
			_, want := Decode(s)
			if want.Code == api.OK || want.At > 3 {
				continue
			}
			for _, behind := range []string{"a", "\x80", "\x80\x80\x80\x80", "\xff", "\xf0\x90\x80\x80", strings.Repeat("\xbf", 100)} {
				if _, f := Decode(s + behind); f != want {
					t.Errorf("%x and %x behind it: %v, not %v", s, behind, f, want)
				}
			}
		}
	}
}

// P1, R1: texts of a great length end in good time.
func TestLongTexts(t *testing.T) {
	const many = 1 << 22
	for _, s := range []string{"a", "\xc3\xa4", "\xed\x9f\xbf", "\xf0\x90\x80\x80"} {
		long := strings.Repeat(s, many)
		l, f := Decode(long)
		starts, ok := Starts(long)
		if len(l) != many || f != (api.Fault{}) || len(starts) != many || starts[many-1] != len(long)-len(s) || !ok {
			t.Errorf("many of %x: %d letters, %v, %d starts, %v", s, len(l), f, len(starts), ok)
		}
		faulty(t, long+"\xe4", len(long))
		faulty(t, "\xe4"+long, 0)
	}
	faulty(t, strings.Repeat("\x80", many), 0)
	if s, ok := Encode(append(make([]rune, many), -1)); s != "" || ok {
		t.Errorf("%d bytes, %v", len(s), ok)
	}
}

// R3, R4, R5: an answer hangs on its own call alone; letters that are encoded
// stay as they are; what is done to an answer is seen nowhere; nil is empty.
func TestNothingKeptOrShared(t *testing.T) {
	letters := []rune{0x61, 0xe4, 0x10000}
	for range 3 {
		l, f := Decode("a\xc3\xa4\xf0\x90\x80\x80")
		starts, ok := Starts("a\xc3\xa4\xf0\x90\x80\x80")
		if !slices.Equal(l, letters) || f != (api.Fault{}) || !slices.Equal(starts, []int{0, 1, 3}) || !ok {
			t.Errorf("%x, %v, %v, %v", l, f, starts, ok)
		}
		clear(l)
		clear(starts)
		Decode("\xff")
		if s, ok := Encode(letters); s != "a\xc3\xa4\xf0\x90\x80\x80" || !ok {
			t.Errorf("Encode = %x, %v", s, ok)
		}
		Encode([]rune{0x62, -1})
		if !slices.Equal(letters, []rune{0x61, 0xe4, 0x10000}) {
			t.Errorf("the letters became %x", letters)
		}
	}
	for _, l := range [][]rune{nil, {}} {
		if s, ok := Encode(l); s != "" || !ok {
			t.Errorf("Encode of nothing = %x, %v", s, ok)
		}
	}
}
