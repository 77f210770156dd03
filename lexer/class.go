package lexer

import "variorum/api"

const (
	hyphen     = '-' // it denotes the soft hyphen behind a backslash
	softHyphen = string(rune(api.SoftHyphen))
)

// Classes of bytes, by what a byte means outside a comment.
const (
	plain = iota
	blank
	comment
	backslash
	opener
	closer
)

// classOf needs no more than a byte: in UTF-8, no byte of a letter from 80 on is
// one of those named here.
func classOf(b byte) int {
	switch b {
	case '\t', '\n', '\r', ' ':
		return blank
	case '%':
		return comment
	case '\\':
		return backslash
	case '{':
		return opener
	case '}':
		return closer
	}
	return plain
}

// special tells whether a byte stands in a word only behind a backslash. No
// blank ever does.
func special(b byte) bool {
	return classOf(b) != plain && classOf(b) != blank
}

// letters is what s begins with that could be a command's name.
func letters(s string) string {
	for i := range len(s) {
		if !isLetter(s[i]) {
			return s[:i]
		}
	}
	return s
}

func isLetter(b byte) bool {
	return b >= 'a' && b <= 'z' || b >= 'A' && b <= 'Z'
}
