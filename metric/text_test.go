package metric

import (
	"regexp"
	"strings"
	"testing"

	"variorum/api"
	"variorum/scaled"
)

// P7.1, P7.3, P2: tables and their texts, both ways.
func TestTexts(t *testing.T) {
	fullText, _ := textOf(full())
	for _, x := range []struct {
		m    api.Metric
		text string
	}{
		{small(), smallText},
		{least(), leastText},
		{full(), fullText},
		{api.Metric{Space: api.Glue{Width: 3 * api.One, Stretch: api.One, Shrink: api.One}, Hyphen: 45, Chars: []api.Char{{Code: 45, Width: 2 * api.One, Height: api.One}}}, // the chapter's example
			"space 3.0 1.0 1.0\nhyphen 45\nchar 45 2.0 1.0 0.0\n"},
		{api.Metric{Space: api.Glue{Width: 218453}, Hyphen: 'a', Chars: []api.Char{{Code: 'a', Depth: 32768}}, Ligs: []api.Lig{{A: 'a', B: 'a', To: 'a'}}}, // no kerns
			"space 3.33333 0.0 0.0\nhyphen 97\nchar 97 0.0 0.0 0.5\nlig 97 97 97\n"},
	} {
		if s := Print(x.m); s != x.text {
			t.Errorf("Print = %q, not %q", s, x.text)
		}
		if m, f := Parse(x.text); !same(m, x.m) || f != (api.Fault{}) {
			t.Errorf("Parse(%q) = %v, %v", x.text, m, f)
		}
	}
}

// faulty asks for a line's fault, and nothing beside it.
func faulty(t *testing.T, s string, at int) {
	t.Helper()
	if m, f := Parse(s); !isZero(m) || f != (api.Fault{Code: api.ErrMetricLine, At: at}) {
		t.Errorf("Parse(%.400q) = %v, not at %d", s, f, at)
	}
}

// P7.1: the lines that must be there, and what is left behind the last one.
func TestMissing(t *testing.T) {
	space, rest, _ := strings.Cut(smallText, "\n")
	faulty(t, "", 0)
	faulty(t, "\n", 0)
	faulty(t, "\n\n\n", 0)
	faulty(t, " ", 0)
	faulty(t, space, 0)
	faulty(t, space+"\n", 1)
	faulty(t, space+"\n\n", 1)
	faulty(t, space+"\nhyphen 45", 1)
	faulty(t, rest, 0)
	faulty(t, "\n"+smallText, 0)
	faulty(t, "hyphen 45\n"+space+"\n", 0)
	faulty(t, space+"\nchar 45 2.0 1.0 0.0\nhyphen 45\n", 1)
	faulty(t, smallText+"\n", 14)
	faulty(t, smallText+"x", 14)
	faulty(t, smallText+" ", 14)
	faulty(t, smallText+"\x00", 14)
	faulty(t, smallText+"lig 1114111 1114111 97", 14)
	faulty(t, smallText[:len(smallText)-1], 13)
	if m, f := Parse(space + "\nhyphen 45\n"); !isZero(m) || f != (api.Fault{Code: api.ErrMetricTable, At: -1}) {
		t.Errorf("no letters: %v, %v", m, f)
	}
}

// badLines are invalid wherever they stand.
var badLines = []string{
	"", " ", "  ", "\r", "\t", "#", "45", "space", "hyphen", "char", "kern", "lig", "space ", "hyphen ", "char ", "spaces 1.0 1.0 1.0", "spac 1.0 1.0 1.0", "Space 1.0 1.0 1.0", "SPACE 1.0 1.0 1.0", "glue 1.0 1.0 1.0", "1.0 1.0 1.0",
	"space 1.0", "space 1.0 1.0", "space 1.0 1.0 1.0 1.0", "space 1.0 1.0 1.0 0", "space  1.0 1.0 1.0", "space 1.0  1.0 1.0", "space 1.0 1.0 1.0 ", " space 1.0 1.0 1.0", "space\t1.0 1.0 1.0", "space 1.0 1.0\t1.0", "space 1.0 1.0 1.0\r", "space 1.0 1.0 1.0 #", "space 1.0,1.0,1.0", "\ufeffspace 1.0 1.0 1.0", "space\u00a01.0 1.0 1.0",
	"hyphen 45 45", "hyphen  45", "hyphen 45 ", " hyphen 45", "hyphen\t45", "hyphen 45\r", "hyphen -", "hyphen 45.0", "hyphen -45", "hyphen 045", "hyphen 00", "hyphen 12345678", "hyphen 0x2d", "hyphen 4294967341", "hyphen 18446744073709551661", "Hyphen 45", "hyphens 45", "hyphe 45", "hyphen -0",
	"char 45", "char 45 2.0", "char 45 2.0 1.0", "char 45 2.0 1.0 0.0 0.0", "char 45 2.0 1.0 0.0 x y z", "char  45 2.0 1.0 0.0", "char 45  2.0 1.0 0.0", "char 45 2.0 1.0 0.0 ", " char 45 2.0 1.0 0.0", "char 2.0 45 1.0 0.0", "char a 2.0 1.0 0.0", "Char 45 2.0 1.0 0.0", "chars 45 2.0 1.0 0.0", "char 45 2.0 1.0 0", "char 45.0 2.0 1.0 0.0",
	"kern 45 45", "kern 45 45.0", "kern 45 45 45", "kern 45 45 1.0 1.0", "kern 45 1.0", "kern  45 45 1.0", "kern 45  45 1.0", "kern 45 45  1.0", "kern 45 45 1.0 ", " kern 45 45 1.0", "kern 45 45 +1.0", "kern 45 45 --1.0", "kern - - 1.0", "Kern 45 45 1.0", "kern 1.0 45 45",
	"lig 45", "lig 45 45", "lig 45 45 45.0", "lig 45 45 45 45", "lig 45 45 1.0", "lig  45 45 45", "lig 45 45 45 ", " lig 45 45 45", "Lig 45 45 45", "lig 45 45 -45", "lig 45 45 045", "ligs 45 45 45", "li 45 45 45",
}

// P7.1: invalid lines in the place of each line, and behind it; the first one is
// told.
func TestBadLines(t *testing.T) {
	lines := strings.SplitAfter(strings.TrimSuffix(smallText, "\n"), "\n")
	lines[len(lines)-1] += "\n"
	for _, bad := range badLines {
		for at := range lines {
			ahead, behind := strings.Join(lines[:at], ""), strings.Join(lines[at+1:], "")
			faulty(t, ahead+bad+"\n"+behind, at)
			faulty(t, ahead+bad+"\n"+lines[at]+behind, at)
			faulty(t, ahead+bad+"\n", at)
			faulty(t, ahead+bad+"\nkern\n\n"+behind+"x", at)
		}
		faulty(t, smallText+bad+"\n", len(lines))
	}
}

// badCodes are no codes, or none in this form.
var badCodes = []string{"", "-", "+", "a", "-1", "+1", "-0", "00", "01", "0000001", "00000045", "12345678", "10000000", "99999999999999999999", "0x2", "1_0", "1e3", "1.", "1.0", ".5", "\u0661", "1\x00", "\xff", "1\r", "\t1"}

// badLengths are no lengths, or none in the form that they are printed in.
var badLengths = []string{"", "-", "+", ".", "a", "0", "1", "-1", "1.", ".5", "-.5", "+1.0", "--1.0", "01.0", "00.0", "-01.0", "1.00", "0.50", "0.00", "-0.0", "-0.00", "0.00001", "0.00004", "0.000015", "3.333333", "3.33335", "0.12345678901234567", "1.0.0", "1,0", "1e3", "0x1.0", "1.0pt", "16384.0", "16383.99999", "16384.5", "-16384.0", "-16383.99999", "32768.0", "99999.0", "1_0.0", "inf", "NaN", "\u0661.0", "1.0\r", "\t1.0", "1.0\x00", "\xff"}

// P7.1: each number of each line, in every form that is none.
func TestBadNumbers(t *testing.T) {
	lines := strings.SplitAfter(strings.TrimSuffix(smallText, "\n"), "\n")
	lines[len(lines)-1] += "\n"
	for at, line := range lines {
		words := strings.Split(strings.TrimSuffix(line, "\n"), " ")
		for i := 1; i < len(words); i++ {
			bad := badCodes
			if strings.Contains(words[i], ".") {
				bad = badLengths
			}
			for _, w := range bad {
				now := append([]string{}, words...)
				now[i] = w
				faulty(t, strings.Join(lines[:at], "")+strings.Join(now, " ")+"\n"+strings.Join(lines[at+1:], ""), at)
			}
		}
	}
}

// P7.1: codes of up to seven digits make a valid line; that they are no
// letter's, or that a length is negative, is the table's fault.
func TestTableFaults(t *testing.T) {
	space, hyphenLine, char := "space 3.0 1.0 1.0\n", "hyphen 45\n", "char 45 2.0 1.0 0.0\n"
	fault := api.Fault{Code: api.ErrMetricTable, At: -1}
	for _, s := range []string{
		space + hyphenLine, space + "hyphen 46\n" + char, space + "hyphen 9999999\n" + char, space + "hyphen 0\n" + char,
		"space -3.0 1.0 1.0\n" + hyphenLine + char, "space 3.0 -0.00002 1.0\n" + hyphenLine + char, "space 3.0 1.0 -16383.99998\n" + hyphenLine + char,
		space + hyphenLine + "char 45 -2.0 1.0 0.0\n", space + hyphenLine + "char 45 2.0 -1.0 0.0\n", space + hyphenLine + "char 45 2.0 1.0 -0.00002\n",
		space + hyphenLine + char + char, space + hyphenLine + char + "char 44 2.0 1.0 0.0\n", space + hyphenLine + char + "char 55296 2.0 1.0 0.0\n", space + hyphenLine + char + "char 57343 0.0 0.0 0.0\n", space + hyphenLine + char + "char 1114112 0.0 0.0 0.0\n", space + hyphenLine + char + "char 9999999 0.0 0.0 0.0\n",
		space + hyphenLine + "kern 45 45 1.0\n", space + hyphenLine + "lig 45 45 45\n", space + hyphenLine + char + "kern 45 46 1.0\n", space + hyphenLine + char + "kern 9999999 45 1.0\n", space + hyphenLine + char + "kern 45 45 1.0\nkern 45 45 1.0\n",
		space + hyphenLine + char + "lig 45 45 46\n", space + hyphenLine + char + "lig 45 46 45\n", space + hyphenLine + char + "lig 0 45 45\n", space + hyphenLine + char + "lig 45 45 45\nlig 45 45 45\n",
		space + hyphenLine + strings.Repeat(char, 257), space + hyphenLine + char + strings.Repeat("kern 45 45 1.0\n", 1001), space + hyphenLine + char + strings.Repeat("lig 45 45 45\n", 1001),
	} {
		if m, f := Parse(s); !isZero(m) || f != fault {
			t.Errorf("Parse(%q) = %v, %v", s, m, f)
		}
		faulty(t, s+"x", strings.Count(s, "\n"))
		faulty(t, s+"\n", strings.Count(s, "\n"))
	}
}

// The chapter's words by another way: by regular expressions.
var (
	codeForm   = `(?:0|[1-9][0-9]{0,6})`
	lengthForm = `-?[0-9]+\.[0-9]{1,5}`
	lineForms  = []*regexp.Regexp{
		regexp.MustCompile(`^space( ` + lengthForm + `){3}$`),
		regexp.MustCompile(`^hyphen ` + codeForm + `$`),
		regexp.MustCompile(`^char ` + codeForm + `( ` + lengthForm + `){3}$`),
		regexp.MustCompile(`^kern( ` + codeForm + `){2} ` + lengthForm + `$`),
		regexp.MustCompile(`^lig( ` + codeForm + `){3}$`),
	}
	lengthIn = regexp.MustCompile(lengthForm)
)

// kindOf is the kind of a valid line, -1 for one that is not.
func kindOf(line string) int {
	for kind, x := range lineForms {
		if !x.MatchString(line) {
			continue
		}
		for _, length := range lengthIn.FindAllString(line, -1) {
			if n, ok := scaled.Parse(length); !ok || scaled.Print(n) != length {
				return -1
			}
		}
		return kind
	}
	return -1
}

// badLine is the number of the first invalid line, -1 if all are valid.
func badLine(s string) int {
	lines := strings.Split(s, "\n")
	last := len(lines) - 1
	latest := 2
	for at, line := range lines {
		kind := kindOf(line)
		switch {
		case at == last:
			if line != "" || at < 2 {
				return at
			}
		case at < 2:
			if kind != at {
				return at
			}
		case kind < latest:
			return at
		default:
			latest = kind
		}
	}
	return -1
}

// parseHolds holds the answer against the chapter's words; what is read is
// printed back.
func parseHolds(t *testing.T, s string) bool {
	t.Helper()
	if at := badLine(s); at >= 0 {
		faulty(t, s, at)
		return false
	}
	m, f := Parse(s)
	switch {
	case f == api.Fault{Code: api.ErrMetricTable, At: -1}:
		if !isZero(m) {
			t.Errorf("Parse(%q) = %v, %v", s, m, f)
		}
		return false
	case f != api.Fault{}:
		t.Errorf("Parse(%q) = %v, %v", s, m, f)
		return false
	}
	if Check(m) != api.OK || Print(m) != s {
		t.Errorf("%q is read and printed to %q", s, Print(m))
	}
	return true
}

// P7.1, P7.3, P2: all texts of up to six lines out of those that could be taken
// for one another.
func TestShortTexts(t *testing.T) {
	pool := []string{"space 1.0 0.5 0.0\n", "hyphen 1\n", "char 1 1.0 2.0 0.0\n", "char 2 0.0 0.0 0.0\n", "kern 1 1 -1.0\n", "lig 1 1 1\n", "lig 1 2 1\n", "\n", "char 3 0.0 0.0 0\n"}
	read := 0
	var grow func(s string, more int)
	grow = func(s string, more int) {
		if parseHolds(t, s) {
			read++
		}
		if more > 0 {
			for _, p := range pool {
				grow(s+p, more-1)
			}
		}
	}
	grow("", 6)
	// The letter 1 with or without each of two pairs; the letters 1 and 2 with or
	// without each of three pairs, but for all three: that would be seven lines.
	if read != 4+7 {
		t.Errorf("%d texts are read", read)
	}
}

// P7.1, P7.3: a text with each byte left out, put in or changed.
func TestChangedTexts(t *testing.T) {
	for _, text := range []string{smallText, leastText} {
		for at := range len(text) + 1 {
			for b := range 256 {
				parseHolds(t, text[:at]+string([]byte{byte(b)})+text[at:])
				if at < len(text) {
					parseHolds(t, text[:at]+string([]byte{byte(b)})+text[at+1:])
				}
			}
			parseHolds(t, text[:at])
			parseHolds(t, text[at:])
			if at < len(text) {
				parseHolds(t, text[:at]+text[at+1:])
				parseHolds(t, text[:at]+text[at:at+1]+text[at:])
			}
			if at+1 < len(text) {
				parseHolds(t, text[:at]+text[at+1:at+2]+text[at:at+1]+text[at+2:])
			}
		}
	}
}

// P7.1: each line in the place of each other one, twice, and left out.
func TestMovedLines(t *testing.T) {
	lines := strings.SplitAfter(strings.TrimSuffix(smallText, "\n"), "\n")
	lines[len(lines)-1] += "\n"
	for i := range lines {
		for k := range lines {
			now := append([]string{}, lines...)
			now[i], now[k] = now[k], now[i]
			if parseHolds(t, strings.Join(now, "")) != (i == k) {
				t.Errorf("lines %d and %d are swapped", i, k)
			}
			now[k] = now[i] + now[k]
			parseHolds(t, strings.Join(now, ""))
			now = append([]string{}, lines...)
			now[k] = lines[i] + now[k]
			if parseHolds(t, strings.Join(now, "")) {
				t.Errorf("line %d stands twice, ahead of line %d", i, k)
			}
		}
		parseHolds(t, strings.Join(append(append([]string{}, lines[:i]...), lines[i+1:]...), ""))
	}
}

// P7.1, P7.3: each code of up to seven digits, in steps, and each length near
// the bounds, comes back.
func TestNumbersBack(t *testing.T) {
	for c := rune(0); c <= 9999999; c += 1 + c/97 {
		s := "space 0.0 0.0 0.0\nhyphen " + number(c) + "\nchar " + number(c) + " 0.0 0.0 0.0\n"
		if parseHolds(t, s) != (c < 0xd800 || c > 0xdfff && c <= 0x10ffff) {
			t.Errorf("the code %d", c)
		}
	}
	for n := int64(0); n <= widest; n += 1 + n/97 {
		for _, n := range []int64{n, widest - n} {
			m := least()
			m.Space.Stretch, m.Chars[0].Depth = n, widest-n
			m.Kerns = []api.Kern{{Width: -n}}
			if back, f := Parse(Print(m)); !same(back, m) || f != (api.Fault{}) {
				t.Errorf("the length %d: %v, %v", n, back, f)
			}
		}
	}
}

// P1, R1: texts of a great length end in good time.
func TestLongTexts(t *testing.T) {
	const many = 1 << 18
	fault := api.Fault{Code: api.ErrMetricTable, At: -1}
	for _, line := range []string{"char 1 1.0 1.0 1.0\n", "kern 1 1 1.0\n", "lig 1 1 1\n"} {
		s := "space 1.0 1.0 1.0\nhyphen 1\n" + strings.Repeat(line, many)
		if m, f := Parse(s); !isZero(m) || f != fault {
			t.Errorf("many lines %q: %v", line, f)
		}
		faulty(t, s+"char", many+2)
		faulty(t, s+"space 1.0 1.0 1.0\n", many+2)
	}
	for _, s := range []string{" ", "a", "space ", "1", "\x00", "\xff", "space 1.0", "hyphen 1 "} {
		long := strings.Repeat(s, 16*many)
		faulty(t, long, 0)
		faulty(t, long+"\n", 0)
	}
	faulty(t, strings.Repeat("\n", 16*many), 0)
	digits := strings.Repeat("1", 16*many)
	faulty(t, "space "+digits+" 1.0 1.0\nhyphen 1\n", 0)
	faulty(t, "space 1.0 1.0 1."+digits+"\nhyphen 1\n", 0)
	faulty(t, "space 1.0 1.0 1.0\nhyphen "+digits+"\n", 1)
	faulty(t, "space 1.0 1.0 1.0\nhyphen 1\nchar "+digits+" 1.0 1.0 1.0\n", 2)
}
