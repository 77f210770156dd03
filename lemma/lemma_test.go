package lemma

import (
	"strconv"
	"strings"
	"testing"
)

const sh = "\xc2\xad" // a soft hyphen

func words(s string) []string { return strings.Split(s, " ") }

// each calls f with every list of up to most elements; f must not keep it.
func each[E any](elements []E, most int, f func([]E)) {
	list := make([]E, 0, most)
	var grow func()
	grow = func() {
		f(list)
		if len(list) == most {
			return
		}
		for _, e := range elements {
			list = append(list, e)
			grow()
			list = list[:len(list)-1]
		}
	}
	grow()
}

func plain(t *testing.T, word, want string) {
	t.Helper()
	if got := Plain(word); got != want {
		t.Errorf("Plain(%.80q) = %.80q, not %.80q", word, got, want)
	}
}

func counts(t *testing.T, line []string, at, upTo, all int) {
	t.Helper()
	if a, b := Count(line, at); a != upTo || b != all {
		t.Errorf("Count(%.80q, %d) = %d, %d, not %d, %d", line, at, a, b, upTo, all)
	}
}

func marks(t *testing.T, line []string, at int, want string) {
	t.Helper()
	if got := Mark(line, at); got != want {
		t.Errorf("Mark(%.80q, %d) = %.80q, not %.80q", line, at, got, want)
	}
}

// P15.1: plain forms, worked out by hand.
func TestPlain(t *testing.T) {
	for word, want := range map[string]string{
		"":                        "",
		"a":                       "a",
		"lemma":                   "lemma",
		sh:                        "",
		sh + sh + sh:              "",
		"lem" + sh + "ma":         "lemma",
		sh + "lem" + sh + "ma":    "lemma",
		"lem" + sh + "ma" + sh:    "lemma",
		"a" + sh + sh + "b":       "ab",
		"\u00ad\u00ads\u00ads":    "ss",
		"a" + sh + " " + sh + "b": "a b",
		// Two bytes that become adjacent remain.
		"\xc2" + sh + "\xad":                   sh,
		"a\xc2" + sh + "\xadb":                 "a" + sh + "b",
		"\xc2" + sh + sh + "\xad":              sh,
		"\xc2\xc2" + sh + "\xad\xad":           "\xc2" + sh + "\xad",
		"\xc2" + sh + "\xad" + sh:              sh,
		"\xc2" + sh + "\xad\xc2" + sh + "\xad": sh + sh,
		// One of its bytes alone is no soft hyphen, nor is what looks like it.
		"\xc2":                    "\xc2",
		"\xad":                    "\xad",
		"\xad\xc2":                "\xad\xc2",
		"\xc2a\xad":               "\xc2a\xad",
		"\xc2\xc2\xad":            "\xc2",
		"\xc2\xad\xad":            "\xad",
		"\xc3\xad":                "\u00ed",
		"\xc2\xac\xc2\xae":        "\u00ac\u00ae",
		"a-b":                     "a-b",
		"a\u2010b\u2011c":         "a\u2010b\u2011c",
		"a\\-b":                   "a\\-b",
		"a\u200bb\u00a0c":         "a\u200bb\u00a0c",
		"a&shy;b":                 "a&shy;b",
		"a\x00b\n c ":             "a\x00b\n c ",
		"A\u00e4\u0308\U0001f600": "A\u00e4\u0308\U0001f600",
		// They are bytes, whatever stands around them.
		"\xff" + sh + "\xff":          "\xff\xff",
		"\xe2" + sh + "\x80\x90":      "\u2010",
		"\xf0\x9f" + sh + "\x98\x80":  "\U0001f600",
		"\xe2\x80" + sh:               "\xe2\x80",
		"a^1" + sh + "2":              "a^12",
		"\u00e4" + sh + "\u0308" + sh: "\u00e4\u0308",
	} {
		plain(t, word, want)
	}
}

// bared is the plain form taken another way: byte by byte.
func bared(word string) string {
	if word == "" {
		return ""
	}
	if len(word) >= 2 && word[0] == 0xc2 && word[1] == 0xad {
		return bared(word[2:])
	}
	return word[:1] + bared(word[1:])
}

// P15.1: all short words of bytes that could be taken for one another.
func TestAllPlain(t *testing.T) {
	each([]byte{0xc2, 0xad, 'a'}, 9, func(b []byte) {
		word := string(b)
		plain(t, word, bared(word))
	})
	each([]byte{0xc2, 0xad, 0xc3, 0xac, ' ', 0}, 5, func(b []byte) {
		word := string(b)
		plain(t, word, bared(word))
	})
	for b := range 256 {
		one := string([]byte{byte(b)})
		plain(t, one, one)
		plain(t, one+sh, one)
		plain(t, sh+one, one)
		plain(t, one+sh+one, one+one)
	}
	for a := range 256 {
		for b := range 256 {
			two := string([]byte{byte(a), byte(b)})
			if two == sh {
				plain(t, two, "")
			} else {
				plain(t, two, two)
			}
		}
	}
}

// P15.1: counts and marks, worked out by hand.
func TestCount(t *testing.T) {
	aba := words("a b a")
	counts(t, aba, 0, 1, 2)
	counts(t, aba, 1, 1, 1)
	counts(t, aba, 2, 2, 2)
	marks(t, aba, 0, "a^1")
	marks(t, aba, 1, "b")
	marks(t, aba, 2, "a^2")
	four := words("et in et et")
	counts(t, four, 0, 1, 3)
	counts(t, four, 1, 1, 1)
	counts(t, four, 2, 2, 3)
	counts(t, four, 3, 3, 3)
	marks(t, four, 3, "et^3")
	counts(t, words("a"), 0, 1, 1)
	marks(t, words("a"), 0, "a")
	// An empty word is one like any other, and so is a word of soft hyphens.
	for _, line := range [][]string{{"", "a", ""}, {sh, "a", ""}, {"", "a", sh + sh}, {sh, "a", sh + sh}} {
		counts(t, line, 0, 1, 2)
		counts(t, line, 2, 2, 2)
		marks(t, line, 0, "^1")
		marks(t, line, 2, "^2")
	}
	counts(t, []string{""}, 0, 1, 1)
	marks(t, []string{""}, 0, "")
	marks(t, []string{sh}, 0, "")
}

// P15.1: words are equal if their plain forms are, and only then.
func TestEqual(t *testing.T) {
	ab := []string{"a" + sh + "b", "ab", "b", sh + "ab" + sh, "a" + sh + sh + "b", "a"}
	for i, at := range []int{0, 1, 3, 4} {
		counts(t, ab, at, i+1, 4)
		marks(t, ab, at, "ab^"+strconv.Itoa(i+1))
	}
	counts(t, ab, 2, 1, 1)
	counts(t, ab, 5, 1, 1)
	// A soft hyphen that comes into being tells two words apart, and is in the mark.
	made := []string{"a\xc2" + sh + "\xadb", "ab", "a" + sh + "b", "a\xc2" + sh + sh + "\xadb"}
	counts(t, made, 0, 1, 2)
	counts(t, made, 1, 1, 2)
	counts(t, made, 2, 2, 2)
	counts(t, made, 3, 2, 2)
	marks(t, made, 0, "a"+sh+"b^1")
	marks(t, made, 2, "ab^2")
	marks(t, made[:2], 0, "a"+sh+"b")
	marks(t, made[:2], 1, "ab")
	// Words that look alike, or begin alike.
	unlike := []string{"a", "A", "a ", " a", "aa", "\u00e4", "a\u0308", "a\x00", "", "\xff", "\ufffd", "\xfe", "a^1", "a^", "^", "a-", "\xc2", "\xad"}
	for at, word := range unlike {
		counts(t, unlike, at, 1, 1)
		marks(t, unlike, at, word)
		marks(t, append([]string{word}, unlike...), at+1, word+"^2")
	}
}

// P15.1: numbers are decimal, without zeros ahead.
func TestManyEqual(t *testing.T) {
	line := strings.Split(strings.Repeat("a b ", 1200)+"c", " ")
	counts(t, line, 2400, 1, 1)
	marks(t, line, 2400, "c")
	for at := range 2400 {
		counts(t, line, at, at/2+1, 1200)
		marks(t, line, at, line[at]+"^"+strconv.Itoa(at/2+1))
	}
	marks(t, line, 18, "a^10")
	marks(t, line, 199, "b^100")
	marks(t, line, 1998, "a^1000")
}

// P15.1: what is no index of the line.
func TestNoIndex(t *testing.T) {
	for _, line := range [][]string{nil, {}, {""}, {"a"}, {"a", "a"}, {sh, "b", ""}} {
		for _, at := range notIn(len(line)) {
			counts(t, line, at, 0, 0)
			marks(t, line, at, "")
		}
	}
	longer := words("a a a")
	counts(t, longer[:2], 2, 0, 0)
	marks(t, longer[:2], 2, "")
	counts(t, longer[:2], 1, 2, 2)
}
