package lexer

import (
	"strings"

	"variorum/api"
	"variorum/utf"
)

// Print separates all tokens, as some would become one if they touched: two
// words, or a command and a word.
func Print(l []api.Token) string {
	if !May(l) {
		return ""
	}
	var s strings.Builder
	for i, t := range l {
		if i > 0 {
			s.WriteByte(' ')
		}
		s.WriteString(printed(t))
	}
	return s.String()
}

func printed(t api.Token) string {
	switch t.Kind {
	case api.TokCommand:
		return `\` + t.Text
	case api.TokOpen:
		return "{"
	case api.TokClose:
		return "}"
	}
	return Escape(t.Text)
}

func May(l []api.Token) bool {
	for _, t := range l {
		if !valid(t) {
			return false
		}
	}
	return true
}

func valid(t api.Token) bool {
	switch t.Kind {
	case api.TokWord:
		return isWord(t.Text)
	case api.TokCommand:
		return t.Text != "" && letters(t.Text) == t.Text
	case api.TokOpen, api.TokClose:
		return t.Text == ""
	}
	return false
}

func isWord(s string) bool {
	for i := range len(s) {
		if classOf(s[i]) == blank {
			return false
		}
	}
	_, f := utf.Decode(s)
	return s != "" && f.Code == api.OK
}

// Escape goes by bytes, as s need not be UTF-8.
func Escape(s string) string {
	var escaped strings.Builder
	for rest := s; rest != ""; {
		if after, ok := strings.CutPrefix(rest, softHyphen); ok {
			escaped.WriteByte('\\')
			escaped.WriteByte(hyphen)
			rest = after
			continue
		}
		if special(rest[0]) {
			escaped.WriteByte('\\')
		}
		escaped.WriteByte(rest[0])
		rest = rest[1:]
	}
	return escaped.String()
}
