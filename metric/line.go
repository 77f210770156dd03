package metric

import (
	"errors"
	"strconv"
	"strings"

	"variorum/api"
	"variorum/scaled"
)

// Kinds of lines, in the order in which they stand in a table's text.
const (
	spaceLine = iota
	hyphenLine
	charLine
	kernLine
	ligLine
)

const (
	blank     = " " // between a line's words
	mostWords = 5   // of a line of any kind
	maxDigits = 7   // of a code
)

var errLine = errors.New("a line is invalid")

// pattern is what a line of a kind consists of: its name, then codes, then
// lengths.
type pattern struct {
	name           string
	codes, lengths int
}

// patterns has that of each kind.
var patterns = [5]pattern{{"space", 0, 3}, {"hyphen", 1, 0}, {"char", 1, 3}, {"kern", 2, 1}, {"lig", 3, 0}}

// line is a line of a table's text, with as many codes and lengths as its kind
// asks for.
type line struct {
	kind    int
	codes   []rune
	lengths []int64
}

func newLine(kind int, codes []rune, lengths ...int64) line {
	return line{kind, codes, lengths}
}

func (l line) text() string {
	words := []string{patterns[l.kind].name}
	for _, c := range l.codes {
		words = append(words, strconv.Itoa(int(c)))
	}
	for _, n := range l.lengths {
		words = append(words, scaled.Print(n))
	}
	return strings.Join(words, blank)
}

// readLine parses a line by itself, wherever it stands.
func readLine(s string) (line, error) {
	words := strings.SplitN(s, blank, mostWords+1)
	for kind, p := range patterns {
		if words[0] == p.name && len(words) == 1+p.codes+p.lengths {
			return readNumbers(kind, words[1:1+p.codes], words[1+p.codes:])
		}
	}
	return line{}, errLine
}

func readNumbers(kind int, codes, lengths []string) (line, error) {
	l := line{kind: kind}
	for _, s := range codes {
		c, err := readCode(s)
		if err != nil {
			return line{}, err
		}
		l.codes = append(l.codes, c)
	}
	for _, s := range lengths {
		n, err := readLength(s)
		if err != nil {
			return line{}, err
		}
		l.lengths = append(l.lengths, n)
	}
	return l, nil
}

// readCode accepts a code only as it would be printed. It need not be a
// letter's: that is the table's fault, not the line's.
func readCode(s string) (rune, error) {
	if len(s) > maxDigits {
		return 0, errLine
	}
	n, err := strconv.Atoi(s)
	if err != nil || n < 0 || strconv.Itoa(n) != s {
		return 0, errLine
	}
	return rune(n), nil
}

// readLength accepts a length only as it would be printed: scaled.Parse takes
// many texts for one.
func readLength(s string) (int64, error) {
	n, ok := scaled.Parse(s)
	if !ok || scaled.Print(n) != s {
		return 0, errLine
	}
	return n, nil
}

// addTo enters what the line tells into the table.
func (l line) addTo(m *api.Metric) {
	switch l.kind {
	case spaceLine:
		m.Space = api.Glue{Width: l.lengths[0], Stretch: l.lengths[1], Shrink: l.lengths[2]}
	case hyphenLine:
		m.Hyphen = l.codes[0]
	case charLine:
		m.Chars = append(m.Chars, api.Char{Code: l.codes[0], Width: l.lengths[0], Height: l.lengths[1], Depth: l.lengths[2]})
	case kernLine:
		m.Kerns = append(m.Kerns, api.Kern{A: l.codes[0], B: l.codes[1], Width: l.lengths[0]})
	case ligLine:
		m.Ligs = append(m.Ligs, api.Lig{A: l.codes[0], B: l.codes[1], To: l.codes[2]})
	}
}
