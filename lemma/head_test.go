package lemma

import (
	"math"
	"slices"
	"strconv"
	"strings"
	"testing"
)

func shorts(t *testing.T, list []string, want string) {
	t.Helper()
	if got := Short(list); got != want {
		t.Errorf("Short(%.80q) = %.80q, not %.80q", list, got, want)
	}
}

func heads(t *testing.T, line []string, from, to int, want string) {
	t.Helper()
	if got := Head(line, from, to); got != want {
		t.Errorf("Head(%.80q, %d, %d) = %.80q, not %.80q", line, from, to, got, want)
	}
}

// notIn are numbers that are no index of a list of so many.
func notIn(many int) []int {
	return []int{
		-1, -2, -many - 1, many, many + 1, many + 2, math.MinInt, math.MinInt + 1, math.MinInt + many, math.MaxInt, math.MaxInt - 1,
		math.MinInt32, math.MaxInt32, math.MaxUint32, 1 << 32, -1 << 32,
	}
}

// P15.2: lemmas in short, worked out by hand.
func TestShort(t *testing.T) {
	for list, want := range map[string]string{
		"a":             "a",
		"a b":           "a b",
		"a b c":         "a b c",
		"a b c d":       "a ... d",
		"a b c d e":     "a ... e",
		"a a":           "a a",
		"a b a":         "a b a",
		"a a a":         "a a a",
		"a a a a":       "a ... a",
		"... a":         "... a",
		"a ... b":       "a ... b",
		"a ... ... b":   "a ... b",
		"^ ^1 a^":       "^ ^1 a^",
		"x%{}\\ \u00e4": "x%{}\\ \u00e4",
	} {
		shorts(t, words(list), want)
	}
	shorts(t, nil, "")
	shorts(t, []string{""}, "")
	shorts(t, []string{sh}, "")
	shorts(t, []string{"", ""}, " ")
	shorts(t, []string{"", sh, ""}, "  ")
	shorts(t, []string{"", "a", ""}, " a ")
	shorts(t, []string{"", "a", "b", ""}, " ... ")
	shorts(t, []string{sh, sh, sh, sh}, " ... ")
	shorts(t, []string{" a", "b ", " "}, " a b   ")
	shorts(t, []string{"a b c", "d"}, "a b c d")
	shorts(t, []string{"a b c d"}, "a b c d")
	shorts(t, []string{"a" + sh + "b"}, "ab")
	shorts(t, []string{"a" + sh + "b", sh + "c", "d" + sh}, "ab c d")
	shorts(t, []string{"a" + sh + "b", "c", "d", "e" + sh + "f"}, "ab ... ef")
	// Each word's plain form is made by itself, and once.
	shorts(t, []string{"a\xc2" + sh + "\xad"}, "a"+sh)
	shorts(t, []string{"a\xc2", "\xadb"}, "a\xc2 \xadb")
	shorts(t, []string{"\xc2" + sh + "\xad", "a", "b", "\xc2" + sh + "\xad"}, sh+" ... "+sh)
	shorts(t, []string{"a", "\xff", "b\x00"}, "a \xff b\x00")
}

// P15.2: heads, worked out by hand.
func TestHead(t *testing.T) {
	aba := words("a b a")
	heads(t, aba, 0, 2, "a^1 b")
	heads(t, aba, 0, 1, "a^1")
	heads(t, aba, 1, 2, "b")
	heads(t, aba, 2, 3, "a^2")
	heads(t, aba, 1, 3, "b a^2")
	heads(t, aba, 0, 3, "a^1 b a^2")
	six := words("a b a c b d")
	heads(t, six, 0, 3, "a^1 b^1 a^2")
	heads(t, six, 0, 4, "a^1 ... c")
	heads(t, six, 0, 5, "a^1 ... b^2")
	heads(t, six, 0, 6, "a^1 ... d")
	heads(t, six, 1, 5, "b^1 ... b^2")
	heads(t, six, 2, 6, "a^2 ... d")
	heads(t, six, 3, 6, "c b^2 d")
	heads(t, six, 5, 6, "d")
	// The words are counted in the whole line, but none beyond it.
	heads(t, six[:3], 1, 2, "b")
	heads(t, six[2:], 0, 1, "a")
	heads(t, words("a a a a a a a a a a a a"), 9, 12, "a^10 a^11 a^12")
	heads(t, words("a a a a a a a a a a a a"), 0, 12, "a^1 ... a^12")
	heads(t, []string{"a" + sh + "b", "ab", "c" + sh}, 0, 3, "ab^1 ab^2 c")
	heads(t, []string{"", "a", sh}, 0, 3, "^1 a ^2")
	heads(t, []string{""}, 0, 1, "")
	heads(t, []string{"", "a"}, 0, 2, " a")
	heads(t, []string{"", "a", "b", "c"}, 0, 4, " ... c")
	heads(t, []string{"a b", "a", "a b"}, 0, 3, "a b^1 a a b^2")
	// A soft hyphen that comes into being is in the head as it is in the mark.
	made := []string{"\xc2" + sh + "\xad", "a", "b", "\xc2" + sh + "\xad", "c\xc2" + sh + "\xad"}
	heads(t, made, 0, 1, sh+"^1")
	heads(t, made, 2, 5, "b "+sh+"^2 c"+sh)
	heads(t, made, 0, 5, sh+"^1 ... c"+sh)
	heads(t, made, 4, 5, "c"+sh)
}

// P15.2: ranges that are empty, or not within the line.
func TestNoRange(t *testing.T) {
	for _, line := range [][]string{nil, {}, {""}, {"a"}, words("a b"), words("a a a a a")} {
		many := len(line)
		for _, x := range notIn(many) {
			for y := -2; y <= many+2; y++ {
				heads(t, line, x, y, "")
			}
			for _, y := range notIn(many) {
				heads(t, line, x, y, "")
			}
			if x != many {
				for from := 0; from <= many; from++ {
					heads(t, line, from, x, "")
				}
			}
		}
		for from := range many + 1 {
			for to := range from + 1 {
				heads(t, line, from, to, "")
			}
		}
	}
	// What lies behind the line is not within it.
	longer := words("a b c")
	heads(t, longer[:2], 0, 3, "")
	heads(t, longer[:2], 2, 3, "")
	heads(t, longer[:0], 0, 1, "")
	heads(t, longer[:2], 0, 2, "a b")
}

// marked are the marks of a line taken another way: by the places of each
// plain form.
func marked(line []string) []string {
	places := map[string][]int{}
	for at, word := range line {
		places[bared(word)] = append(places[bared(word)], at)
	}
	all := make([]string, len(line))
	for word, at := range places {
		for i, x := range at {
			all[x] = word
			if len(at) > 1 {
				all[x] += "^" + strconv.Itoa(i+1)
			}
		}
	}
	return all
}

// joined is the chapter's short form taken another way: all of it, less what
// stands between the ends of a long one.
func joined(list []string) string {
	if len(list) > 3 {
		list = slices.Replace(slices.Clone(list), 1, len(list)-1, "...")
	}
	return strings.Join(list, " ")
}

// P15.1, P15.2: all small lines, at all indices and ranges.
func TestAllLines(t *testing.T) {
	each([]string{"a", "a" + sh, "b", "", "\xc2" + sh + "\xad", sh, "a^1"}, 5, func(line []string) {
		all := marked(line)
		bares := make([]string, len(line))
		for i, word := range line {
			bares[i] = bared(word)
		}
		shorts(t, line, joined(bares))
		for at := range line {
			upTo, many := 0, 0
			for i, word := range bares {
				if word == bares[at] {
					many++
					if i <= at {
						upTo++
					}
				}
			}
			counts(t, line, at, upTo, many)
			marks(t, line, at, all[at])
			for to := at + 1; to <= len(line); to++ {
				heads(t, line, at, to, joined(all[at:to]))
			}
		}
	})
}

// P15.3: marks tell the words of a line apart, and short heads contain them.
func TestMarks(t *testing.T) {
	each([]string{"a", "a" + sh, "1", "a1", "", "\xc2" + sh + "\xad", " "}, 5, func(line []string) {
		seen := map[string]int{}
		for at := range line {
			mark := Mark(line, at)
			if other, ok := seen[mark]; ok {
				t.Errorf("in %q %d and %d are both %q", line, other, at, mark)
			}
			seen[mark] = at
		}
		for from := range line {
			for to := from + 1; to <= min(from+3, len(line)); to++ {
				rest := Head(line, from, to)
				for at := from; at < to; at++ {
					_, after, ok := strings.Cut(rest, Mark(line, at))
					if !ok {
						t.Errorf("Head(%q, %d, %d) = %q lacks the mark at %d", line, from, to, Head(line, from, to), at)
					}
					rest = after
				}
			}
		}
	})
	// A word that contains the sign may have another one's mark.
	marks(t, words("a a a^1"), 0, "a^1")
	marks(t, words("a a a^1"), 2, "a^1")
	marks(t, words("a a a^1 a^1"), 2, "a^1^1")
}
