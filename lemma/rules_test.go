package lemma

import (
	"math"
	"slices"
	"strings"
	"testing"
	"unsafe"
)

// R3: what a call answers does not hang on earlier ones.
func TestNoState(t *testing.T) {
	aba := words("a b a")
	for range 3 {
		plain(t, "a"+sh+"b", "ab")
		plain(t, "ab", "ab")
		counts(t, aba, 2, 2, 2)
		counts(t, aba[:2], 0, 1, 1)
		counts(t, aba, 3, 0, 0)
		marks(t, aba, 2, "a^2")
		marks(t, aba[1:], 1, "a")
		marks(t, aba, -1, "")
		shorts(t, words("a b c d"), "a ... d")
		shorts(t, aba, "a b a")
		heads(t, aba, 0, 2, "a^1 b")
		heads(t, aba[:2], 0, 2, "a b")
		heads(t, aba, 0, 4, "")
	}
}

// R4: arguments stay as they are, also what lies behind them.
func TestArguments(t *testing.T) {
	for _, line := range [][]string{nil, words("a b a"), {"a" + sh, "a", sh, "\xc2" + sh + "\xad", "b", "a"}, words("d c b a")} {
		kept := slices.Clone(line)
		for n := range len(line) + 1 {
			Short(line[:n])
			for at := range len(line) + 1 {
				Count(line[:n], at)
				Mark(line[:n], at)
				Head(line[:n], 0, at)
				Head(line[:n], at, n)
			}
		}
		if !slices.Equal(line, kept) {
			t.Errorf("the words %q are now %q", kept, line)
		}
	}
}

// within tells whether a text lies in another one's memory.
func within(part, s string) bool {
	from, at := uintptr(unsafe.Pointer(unsafe.StringData(s))), uintptr(unsafe.Pointer(unsafe.StringData(part)))
	return at >= from && at < from+uintptr(len(s))
}

// R4: a result is new memory.
func TestNewMemory(t *testing.T) {
	for _, word := range []string{"ab", "a" + sh + "b", "ab" + sh, sh + "ab", "\xc2" + sh + "\xad"} {
		word = strings.Clone(word)
		line := []string{word, "c", "d", "e"}
		for _, s := range []string{Plain(word), Mark(line, 0), Short(line[:1]), Short(line[:2]), Short(line), Head(line, 0, 1), Head(line, 0, 3), Head(line, 0, 4)} {
			if within(s, word) {
				t.Errorf("%q lies in the word %q", s, word)
			}
		}
		if one, two := Plain(word), Plain(word); within(one, two) {
			t.Errorf("two plain forms of %q are one", word)
		}
	}
}

// R5: an empty list and none are the same.
func TestEmpty(t *testing.T) {
	for _, line := range [][]string{nil, {}, make([]string, 0, 8)} {
		shorts(t, line, "")
		for _, at := range []int{-1, 0, 1} {
			counts(t, line, at, 0, 0)
			marks(t, line, at, "")
			for _, to := range []int{-1, 0, 1} {
				heads(t, line, at, to, "")
			}
		}
	}
}

// P1, R1: arguments of a great length end in good time.
func TestLong(t *testing.T) {
	const many = 1 << 20
	plain(t, strings.Repeat(sh, many), "")
	plain(t, strings.Repeat("a", many), strings.Repeat("a", many))
	plain(t, strings.Repeat("a"+sh, many), strings.Repeat("a", many))
	plain(t, strings.Repeat("\xc2", many)+strings.Repeat("\xad", many), strings.Repeat("\xc2", many-1)+strings.Repeat("\xad", many-1))
	for _, word := range []string{"", "a", "a" + sh, sh, "\xff"} {
		line := slices.Repeat([]string{word}, many)
		bare := Plain(word)
		counts(t, line, many-1, many, many)
		counts(t, line, 0, 1, many)
		marks(t, line, many-1, bare+"^1048576")
		shorts(t, line, bare+" ... "+bare)
		heads(t, line, 0, many, bare+"^1 ... "+bare+"^1048576")
		heads(t, line, many-3, many, bare+"^1048574 "+bare+"^1048575 "+bare+"^1048576")
		for _, at := range []int{-1, many, math.MinInt, math.MaxInt} {
			counts(t, line, at, 0, 0)
			marks(t, line, at, "")
			heads(t, line, at, many, "")
			heads(t, line, at, math.MaxInt, "")
		}
		heads(t, line, 0, many+1, "")
		heads(t, line, math.MinInt, math.MaxInt, "")
		heads(t, line, math.MaxInt, math.MinInt, "")
	}
	long := strings.Repeat("a"+sh, many)
	bare := strings.Repeat("a", many)
	pair := []string{long, "a", bare, "b"}
	marks(t, pair, 2, bare+"^2")
	shorts(t, pair, bare+" ... b")
	heads(t, pair, 0, 3, bare+"^1 a "+bare+"^2")
}
