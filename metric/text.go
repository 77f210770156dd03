package metric

import (
	"errors"
	"strings"

	"variorum/api"
)

const lineEnd = "\n"

var errTable = errors.New("the table is invalid")

func Print(m api.Metric) string {
	if Check(m) != api.OK {
		return ""
	}
	var s strings.Builder
	for _, l := range linesOf(m) {
		s.WriteString(l.text())
		s.WriteString(lineEnd)
	}
	return s.String()
}

func linesOf(m api.Metric) []line {
	l := []line{
		newLine(spaceLine, nil, m.Space.Width, m.Space.Stretch, m.Space.Shrink),
		newLine(hyphenLine, []rune{m.Hyphen}),
	}
	for _, c := range m.Chars {
		l = append(l, newLine(charLine, []rune{c.Code}, c.Width, c.Height, c.Depth))
	}
	for _, k := range m.Kerns {
		l = append(l, newLine(kernLine, []rune{k.A, k.B}, k.Width))
	}
	for _, x := range m.Ligs {
		l = append(l, newLine(ligLine, []rune{x.A, x.B, x.To}))
	}
	return l
}

func Parse(s string) (api.Metric, api.Fault) {
	var r reader
	err := r.read(s)
	switch {
	case errors.Is(err, errLine):
		return api.Metric{}, api.Fault{Code: api.ErrMetricLine, At: r.lines}
	case errors.Is(err, errTable):
		return api.Metric{}, api.Fault{Code: api.ErrMetricTable, At: -1}
	}
	return r.table, api.Fault{}
}

// reader is what was read so far: how many lines, of which kind the last one
// was, and the table that they tell of.
type reader struct {
	lines, last int
	table       api.Metric
}

// read stops at the first invalid line: r.lines is then its number. A line that
// is missing has no end, like one that is cut off.
func (r *reader) read(s string) error {
	for s != "" || r.lines <= hyphenLine {
		text, rest, ended := strings.Cut(s, lineEnd)
		if !ended {
			return errLine
		}
		l, err := readLine(text)
		if err != nil {
			return err
		}
		if !r.mayFollow(l.kind) {
			return errLine
		}
		l.addTo(&r.table)
		r.last = l.kind
		r.lines++
		s = rest
	}
	if Check(r.table) != api.OK {
		return errTable
	}
	return nil
}

// mayFollow tells whether a line of this kind may stand next. The first two
// kinds are numbered like the two lines that must be theirs.
func (r *reader) mayFollow(kind int) bool {
	if r.lines <= hyphenLine {
		return kind == r.lines
	}
	return kind >= max(r.last, charLine)
}
