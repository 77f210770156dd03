package lexer

import (
	"math"
	"regexp"
	"slices"
	"strings"
	"testing"
	"unicode/utf8"

	"variorum/api"
)

const soft = "\xc2\xad"

// Tokens, one of each kind, at a place.
func asWord(text string, at int) api.Token { return api.Token{Kind: api.TokWord, Text: text, At: at} }
func asCommand(name string, at int) api.Token {
	return api.Token{Kind: api.TokCommand, Text: name, At: at}
}
func asOpen(at int) api.Token  { return api.Token{Kind: api.TokOpen, At: at} }
func asClose(at int) api.Token { return api.Token{Kind: api.TokClose, At: at} }

// source is a text, and what it is made of.
type source struct {
	s    string
	want []api.Token
}

var sources = []source{
	{`\p{a\{b} % it`, []api.Token{asCommand("p", 0), asOpen(2), asWord("a{b", 3), asClose(7)}}, // the chapter's example
	{"", nil},
	{" \t\r\n ", nil},
	{"%", nil},
	{"% \\1 { \xc3\xa4", nil},
	{"%%\n%\n", nil},
	{"a", []api.Token{asWord("a", 0)}},
	{"arma virumque\tcano\r\nTroiae\rqui", []api.Token{asWord("arma", 0), asWord("virumque", 5), asWord("cano", 14), asWord("Troiae", 20), asWord("qui", 27)}},
	{`\text{\chunk{\p{aa}}}`, []api.Token{asCommand("text", 0), asOpen(5), asCommand("chunk", 6), asOpen(12), asCommand("p", 13), asOpen(15), asWord("aa", 16), asClose(18), asClose(19), asClose(20)}},
	{`\ed{a b}{\A{c}} d`, []api.Token{asCommand("ed", 0), asOpen(3), asWord("a", 4), asWord("b", 6), asClose(7), asOpen(8), asCommand("A", 9), asOpen(11), asWord("c", 12), asClose(13), asClose(14), asWord("d", 16)}},
	{"{}", []api.Token{asOpen(0), asClose(1)}},
	{"}{", []api.Token{asClose(0), asOpen(1)}},
	{"a{b}c", []api.Token{asWord("a", 0), asOpen(1), asWord("b", 2), asClose(3), asWord("c", 4)}},
}

// commands are sources that tell where a command's name ends.
var commands = []source{
	{`\a`, []api.Token{asCommand("a", 0)}},
	{`\azAZ`, []api.Token{asCommand("azAZ", 0)}},
	{`\p1`, []api.Token{asCommand("p", 0), asWord("1", 2)}},
	{`\p@\p[\p` + "`" + `\p~`, []api.Token{asCommand("p", 0), asWord("@", 2), asCommand("p", 3), asWord("[", 5), asCommand("p", 6), asWord("`", 8), asCommand("p", 9), asWord("~", 11)}},
	{`\p-`, []api.Token{asCommand("p", 0), asWord("-", 2)}},
	{`\p\-`, []api.Token{asCommand("p", 0), asWord(soft, 2)}},
	{`\p\{`, []api.Token{asCommand("p", 0), asWord("{", 2)}},
	{`\p\q`, []api.Token{asCommand("p", 0), asCommand("q", 2)}},
	{`a\p`, []api.Token{asWord("a", 0), asCommand("p", 1)}},
	{`\\p`, []api.Token{asWord(`\p`, 0)}},
	{`\\\p`, []api.Token{asWord(`\`, 0), asCommand("p", 2)}},
	{"\\p\xc3\xa4", []api.Token{asCommand("p", 0), asWord("\xc3\xa4", 2)}},
	{"\\p%q\nr", []api.Token{asCommand("p", 0), asWord("r", 5)}},
	{"\\p \\q\n{", []api.Token{asCommand("p", 0), asCommand("q", 3), asOpen(6)}},
}

// words are sources that tell what a word denotes, and where it ends.
var words = []source{
	{`\\\{\}\%\-`, []api.Token{asWord(`\{}%`+soft, 0)}},
	{`Ver\-um`, []api.Token{asWord("Ver"+soft+"um", 0)}},
	{"Ver" + soft + "um", []api.Token{asWord("Ver"+soft+"um", 0)}},
	{`\-`, []api.Token{asWord(soft, 0)}},
	{`\\-`, []api.Token{asWord(`\-`, 0)}},
	{`--\--`, []api.Token{asWord("--"+soft+"-", 0)}},
	{`\\\\`, []api.Token{asWord(`\\`, 0)}},
	{`\%a%\%`, []api.Token{asWord("%a", 0)}},
	{`\\%\`, []api.Token{asWord(`\`, 0)}},
	{"a%b\nc", []api.Token{asWord("a", 0), asWord("c", 4)}},
	{"a%b\rc\nd", []api.Token{asWord("a", 0), asWord("d", 6)}},
	{"a%\nb", []api.Token{asWord("a", 0), asWord("b", 3)}},
	{"a%", []api.Token{asWord("a", 0)}},
	{"%{\n{", []api.Token{asOpen(3)}},
	{"a\x00b", []api.Token{asWord("a\x00b", 0)}},
	{"\x0b\x0c\x1f\x08\x0e\x7f", []api.Token{asWord("\x0b\x0c\x1f\x08\x0e\x7f", 0)}},
	{"a\u00a0b\u0085c\u2028d\u3000e", []api.Token{asWord("a\u00a0b\u0085c\u2028d\u3000e", 0)}},
	{"\ufeffa \u1fb6\u0342 \U0001f600", []api.Token{asWord("\ufeffa", 0), asWord("\u1fb6\u0342", 5), asWord("\U0001f600", 11)}},
	{"a,b;c!$&~_^#\"'[]", []api.Token{asWord("a,b;c!$&~_^#\"'[]", 0)}},
}

// P5.1: ordinary sources, and the edges of commands, words and comments.
func TestLex(t *testing.T) {
	for _, x := range slices.Concat(sources, commands, words) {
		l, f := Lex(x.s)
		if !slices.Equal(l, x.want) || f != (api.Fault{}) {
			t.Errorf("Lex(%q) = %v, %v, not %v", x.s, l, f, x.want)
		}
	}
}

func TestNumbers(t *testing.T) {
	if api.ErrUtf != 40 || api.ErrLexEscape != 50 || api.SoftHyphen != 173 {
		t.Error("a number is not the document's")
	}
	if api.TokWord != 0 || api.TokCommand != 1 || api.TokOpen != 2 || api.TokClose != 3 || api.TokKinds != 4 {
		t.Error("a kind is not the document's")
	}
}

func faulty(t *testing.T, s string, code api.Errno, at int) {
	t.Helper()
	if l, f := Lex(s); len(l) != 0 || f != (api.Fault{Code: code, At: at}) {
		t.Errorf("Lex(%q) = %v, %v, not %d at %d", s, l, f, code, at)
	}
}

// P5.1, R2: a backslash that begins nothing, whatever byte stands behind it, and
// that nothing is answered beside the fault.
func TestEscapeRefused(t *testing.T) {
	for b := range 256 {
		s := string([]byte{'\\', byte(b)})
		l, f := Lex(s)
		switch {
		case b >= 0x80:
			faulty(t, s, api.ErrUtf, 1)
		case b >= 'a' && b <= 'z' || b >= 'A' && b <= 'Z':
			if !slices.Equal(l, []api.Token{asCommand(s[1:], 0)}) || f != (api.Fault{}) {
				t.Errorf("Lex(%q) = %v, %v", s, l, f)
			}
		case strings.IndexByte(`\{}%-`, byte(b)) >= 0:
			if len(l) != 1 || l[0].Kind != api.TokWord || f != (api.Fault{}) {
				t.Errorf("Lex(%q) = %v, %v", s, l, f)
			}
		default:
			faulty(t, s, api.ErrLexEscape, 0)
		}
	}
	for s, at := range map[string]int{
		`\`: 0, `a\`: 1, `\\\`: 2, `\p\`: 2, `{\`: 1, `\1`: 0, `a\1`: 1, `\\\1`: 2, `\\\\\1`: 4, `\-\1`: 2, `\1\2`: 0, `a \, b \; c`: 2,
		"\\\n": 0, "\\ p": 0, "%\\1\n\\2": 4, "a%\\\n \\": 5, `\%\1`: 2, "\\\xc3\xa4": 0, "\\" + soft: 0, "\\p{a}{\\\t}": 6, `\p1\1`: 3,
	} {
		faulty(t, s, api.ErrLexEscape, at)
	}
}

// P5.1, R2: bytes that are no UTF-8, anywhere, ahead of all other faults.
func TestUtfRefused(t *testing.T) {
	for s, at := range map[string]int{
		"\xe4": 0, "a\xc3": 1, "\\1\xe4": 2, "\\\xad": 1, "\\\xe4": 1, "\\\xe4\\1": 1, "%\xff": 1, "%\xff\na": 1, "a % \xed\xa0\x80\n": 4,
		"\\p{\xc0\x80}": 3, "\xc3\\1": 0, "a \\. \xc3\xa4\xa4": 7, "\xc2\\-": 0, "\xf4\x90\x80\x80": 0, "\xc2 \xad": 0,
	} {
		faulty(t, s, api.ErrUtf, at)
	}
}

// What lies ahead in a source, by the chapter's words.
var (
	between = regexp.MustCompile(`^(?:[\x09\x0a\x0d\x20]|%[^\x0a]*)+`)
	command = regexp.MustCompile(`^\\[a-zA-Z]+`)
	element = regexp.MustCompile(`\\[\\{}%-]|[^\\{}%]`)
	whole   = regexp.MustCompile(`^(?:\\[\\{}%-]|[^\x09\x0a\x0d\x20\\{}%])+`)
)

// meaning is what a word denotes, element by element.
func meaning(word string) string {
	return element.ReplaceAllStringFunc(word, func(e string) string {
		if e == `\-` {
			return soft
		}
		return strings.TrimPrefix(e, `\`)
	})
}

func firstInvalid(s string) int {
	at := 0
	for at < len(s) {
		r, size := utf8.DecodeRuneInString(s[at:])
		if r == utf8.RuneError && size == 1 {
			break
		}
		at += size
	}
	return at
}

// lexOf is P5.1 by another way: it looks for the chapter's things one by one.
func lexOf(s string) ([]api.Token, api.Fault) {
	if !utf8.ValidString(s) {
		return nil, api.Fault{Code: 40, At: firstInvalid(s)}
	}
	var l []api.Token
	for at := 0; at < len(s); {
		rest := s[at:]
		gap, name, text := between.FindString(rest), command.FindString(rest), whole.FindString(rest)
		switch {
		case gap != "":
		case name != "":
			l = append(l, asCommand(name[1:], at))
		case text != "":
			l = append(l, asWord(meaning(text), at))
		case rest[0] == '{':
			l = append(l, asOpen(at))
		case rest[0] == '}':
			l = append(l, asClose(at))
		default:
			return nil, api.Fault{Code: 50, At: at}
		}
		at += max(1, len(gap), len(name), len(text))
	}
	return l, api.Fault{}
}

// texts visits all texts of up to n of the pieces.
func texts(pieces []string, n int, visit func(string)) {
	visit("")
	if n == 0 {
		return
	}
	for _, p := range pieces {
		texts(pieces, n-1, func(s string) { visit(p + s) })
	}
}

// holds holds s against the chapter's words, and checks what follows of it.
func holds(t *testing.T, s string) {
	want, fault := lexOf(s)
	l, f := Lex(s)
	if !slices.Equal(l, want) || f != fault {
		t.Errorf("Lex(%q) = %v, %v, not %v, %v", s, l, f, want, fault)
		return
	}
	if !May(l) {
		t.Errorf("Lex(%q) = %v, which is not valid", s, l)
	}
	again, f := Lex(Print(l))
	if !slices.Equal(bare(again), bare(l)) || f != (api.Fault{}) {
		t.Errorf("Lex(%q) = %v, but printed and read it is %v, %v", s, l, again, f)
	}
}

// bare are tokens without their places.
func bare(l []api.Token) []api.Token {
	l = slices.Clone(l)
	for i := range l {
		l[i].At = 0
	}
	return l
}

// P5.1, P5.3, P2: all short texts of pieces that could be taken for one another.
func TestShortTexts(t *testing.T) {
	seen := map[string]struct{}{}
	once := func(s string) {
		if _, ok := seen[s]; !ok {
			seen[s] = struct{}{}
			holds(t, s)
		}
	}
	texts([]string{`\`, "{", "}", "%", "-", "a", "Z", "1", " ", "\t", "\r", "\n", "\x0b", "\xc2", "\xad", "\xc3\xa4"}, 4, once)
	texts([]string{`\`, "{", "%", "-", "a", "\n", "\xc2", "\xad"}, 5, once)
	texts([]string{`\`, "%", "a", "\n"}, 8, once)
}

// P5.1: each byte alone, between two letters, and behind a command.
func TestBytes(t *testing.T) {
	for b := range 256 {
		one := string([]byte{byte(b)})
		for _, s := range []string{one, "a" + one + "a", `\a` + one + "a", `\` + one + "a", "%" + one + "a", "{" + one + "}", one + "\xad", "\xc2" + one} {
			holds(t, s)
		}
	}
}

// P5.3: blanks and comments between tokens change nothing but the places.
func TestBetween(t *testing.T) {
	pieces := []string{`\p`, "{", `a\-b`, `\{`, "}", `\q`, "\xc3\xa4"}
	want, f := Lex(strings.Join(pieces, " "))
	if len(want) != len(pieces) || f != (api.Fault{}) {
		t.Fatalf("%v, %v", want, f)
	}
	for _, gap := range []string{"\t", "\r\n", "   ", "%\n", "% \\1 {\n", " %}\n%\\\n\t", "%\xc3\xa4\r%\n"} {
		l, f := Lex(gap + strings.Join(pieces, gap) + gap)
		if !slices.Equal(bare(l), bare(want)) || f != (api.Fault{}) {
			t.Errorf("with %q between: %v, %v", gap, l, f)
		}
		at := len(gap)
		for i := range l {
			if l[i].At != at {
				t.Errorf("with %q between: token %d is at %d, not %d", gap, i, l[i].At, at)
			}
			at += len(pieces[i]) + len(gap)
		}
	}
}

// P1, R1: sources of a great length end in good time.
func TestLongSources(t *testing.T) {
	const many = 1 << 20
	for piece, tokens := range map[string]int{`\a`: many, "{": many, "}": many, "a ": many, "a%\n": many, `\-`: 1, `\\`: 1, "a": 1, "\xc3\xa4": 1, " ": 0, "%": 0, "%\\\n": 0} {
		long := strings.Repeat(piece, many)
		l, f := Lex(long)
		if len(l) != tokens || f != (api.Fault{}) {
			t.Errorf("many of %q: %d tokens, %v", piece, len(l), f)
		}
		if !May(l) || len(Print(l)) < tokens {
			t.Errorf("many of %q: not valid, or not printed", piece)
		}
		if l, f := Lex(long + "\n\\"); len(l) != 0 || f != (api.Fault{Code: api.ErrLexEscape, At: len(long) + 1}) {
			t.Errorf("many of %q and a backslash: %d tokens, %v", piece, len(l), f)
		}
		if l, f := Lex(long + "\xff"); len(l) != 0 || f != (api.Fault{Code: api.ErrUtf, At: len(long)}) {
			t.Errorf("many of %q and a wrong byte: %d tokens, %v", piece, len(l), f)
		}
	}
	name := strings.Repeat("aZ", many)
	if l, f := Lex(`\` + name); !slices.Equal(l, []api.Token{asCommand(name, 0)}) || f != (api.Fault{}) {
		t.Errorf("a long name: %d tokens, %v", len(l), f)
	}
	faulty(t, strings.Repeat(`\`, 2*many+1), api.ErrLexEscape, 2*many)
}

// R3, R4, R5: an answer hangs on its own call alone, tokens that are asked about
// stay as they are, and nil is empty.
func TestNothingKeptOrShared(t *testing.T) {
	given := []api.Token{asCommand("p", 7), asOpen(math.MinInt), asWord("a{b", -1), asClose(math.MaxInt)}
	kept := slices.Clone(given)
	for range 3 {
		for _, x := range sources {
			l, _ := Lex(x.s)
			for i := range l[:cap(l)] {
				l[:cap(l)][i] = asWord("changed", 9)
			}
			Lex(`a b \1`)
			if again, f := Lex(x.s); !slices.Equal(again, x.want) || f != (api.Fault{}) {
				t.Errorf("Lex(%q) = %v, %v when asked again", x.s, again, f)
			}
		}
		if s := Print(given); s != `\p { a\{b }` || !May(given) || !slices.Equal(given, kept) {
			t.Errorf("Print = %q, and the tokens are %v", s, given)
		}
	}
	for _, none := range [][]api.Token{nil, {}} {
		if Print(none) != "" || !May(none) {
			t.Errorf("%#v: %q, %v", none, Print(none), May(none))
		}
	}
}
