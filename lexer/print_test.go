package lexer

import (
	"math"
	"slices"
	"strings"
	"testing"

	"variorum/api"
)

// P5.2: texts with and without what is escaped, and bytes that are no UTF-8.
func TestEscape(t *testing.T) {
	for s, want := range map[string]string{
		"": "", "a": "a", "a{b": `a\{b`, `\`: `\\`, "{": `\{`, "}": `\}`, "%": `\%`, "-": "-", `\-`: `\\-`, `\{}%`: `\\\{\}\%`, `\\`: `\\\\`,
		soft: `\-`, "Ver" + soft + "um": `Ver\-um`, soft + soft: `\-\-`, soft + "-": `\--`, `\` + soft: `\\\-`, "a b\n\tc\r": "a b\n\tc\r",
		"\xc2": "\xc2", "\xad": "\xad", "\xc2\xc2\xad": "\xc2\\-", "\xc2\xad\xad": "\\-\xad", "\xad\xc2": "\xad\xc2", "\xc2{\xad": "\xc2\\{\xad",
		"\xff%\xfe": "\xff\\%\xfe", "\xc3\xa4": "\xc3\xa4", "\u1fb6\U0001f600": "\u1fb6\U0001f600", "\x00\x7f": "\x00\x7f",
	} {
		if got := Escape(s); got != want {
			t.Errorf("Escape(%q) = %q, not %q", s, got, want)
		}
	}
}

// escapeOf is P5.2 by another way: one replacement behind the other, the
// backslash's first.
func escapeOf(s string) string {
	for _, x := range []string{`\`, "{", "}", "%"} {
		s = strings.ReplaceAll(s, x, `\`+x)
	}
	return strings.ReplaceAll(s, soft, `\-`)
}

// P5.2, P5.3: all short texts, UTF-8 or not; those that can be a word's are read
// back.
func TestEscapeShortTexts(t *testing.T) {
	texts([]string{`\`, "{", "}", "%", "-", "a", " ", "\n", "\xc2", "\xad", "\xc3\xa4", "\xff"}, 4, func(s string) {
		if got := Escape(s); got != escapeOf(s) {
			t.Errorf("Escape(%q) = %q, not %q", s, got, escapeOf(s))
		}
		word := []api.Token{asWord(s, 0)}
		if !May(word) {
			return
		}
		if l, f := Lex(Escape(s)); !slices.Equal(l, word) || f != (api.Fault{}) {
			t.Errorf("%q is escaped and read to %v, %v", s, l, f)
		}
	})
	for b := range 256 {
		for a := range 256 {
			s := string([]byte{byte(a), byte(b)})
			if Escape(s) != escapeOf(s) {
				t.Errorf("Escape(%q) = %q", s, Escape(s))
			}
		}
	}
	const many = 1 << 21
	if s := Escape(strings.Repeat("{"+soft+"a\xc2", many)); s != strings.Repeat("\\{\\-a\xc2", many) {
		t.Errorf("a long text is escaped to %d bytes", len(s))
	}
}

// lists are valid, each with its print.
var lists = []struct {
	l    []api.Token
	want string
}{
	{nil, ""},
	{[]api.Token{asWord("a", 0)}, "a"},
	{[]api.Token{asWord("a", 0), asWord("b", 0)}, "a b"},
	{[]api.Token{asCommand("p", 0), asOpen(0), asWord("a{b", 0), asClose(0)}, `\p { a\{b }`},
	{[]api.Token{asCommand("p", 0), asWord("a", 0)}, `\p a`},
	{[]api.Token{asCommand("azAZ", 0), asCommand("Q", 0)}, `\azAZ \Q`},
	{[]api.Token{asClose(0), asClose(0), asOpen(0), asOpen(0)}, "} } { {"},
	{[]api.Token{asWord(`\`, 0), asWord("%", 0), asWord("{", 0), asWord("}", 0), asWord("-", 0), asWord(`\-`, 0), asWord(soft, 0)}, `\\ \% \{ \} - \\- \-`},
	{[]api.Token{asWord("\xc3\xa4\u00a0\x00\x0b\U0001f600", 0)}, "\xc3\xa4\u00a0\x00\x0b\U0001f600"},
}

// P5.2, P5.3: valid lists, whatever their At.
func TestPrint(t *testing.T) {
	for _, x := range lists {
		for _, at := range []int{0, 1, -1, math.MaxInt, math.MinInt} {
			l := slices.Clone(x.l)
			for i := range l {
				l[i].At = at
			}
			if s := Print(l); s != x.want || !May(l) {
				t.Errorf("Print(%v) = %q, not %q", l, s, x.want)
			}
			if back, f := Lex(Print(l)); !slices.Equal(bare(back), bare(l)) || f != (api.Fault{}) {
				t.Errorf("%v is printed and read to %v, %v", l, back, f)
			}
		}
	}
}

// invalid are tokens each of which makes a list invalid.
func invalid() []api.Token {
	l := []api.Token{asWord("", 0), asWord(" ", 0), asWord("a b", 0), asWord("a\t", 0), asWord("\na", 0), asWord("a\rb", 0), asWord("\xe4", 0), asWord("a\xc3", 0), asWord("\xed\xa0\x80", 0), asWord("\xad", 0),
		asCommand("", 0), asCommand("1", 0), asCommand("a1", 0), asCommand("1a", 0), asCommand("a b", 0), asCommand(" a", 0), asCommand("a\n", 0), asCommand("\xc3\xa4", 0), asCommand("a\xc3\xa4", 0), asCommand(`\a`, 0), asCommand("a-", 0), asCommand("{", 0), asCommand("a_b", 0)}
	for _, text := range []string{"{", "}", "a", " ", "\xff", "\x00"} {
		l = append(l, api.Token{Kind: api.TokOpen, Text: text}, api.Token{Kind: api.TokClose, Text: text})
	}
	for _, kind := range []int{-1, 4, 5, 256, 1 << 32, math.MaxInt, math.MinInt} {
		for _, text := range []string{"", "a", "{"} {
			l = append(l, api.Token{Kind: kind, Text: text})
		}
	}
	return l
}

// P5.2: one token that is not valid, wherever it stands, and nothing is printed.
func TestPrintRefuses(t *testing.T) {
	for _, x := range invalid() {
		for _, l := range [][]api.Token{{x}, {x, asWord("a", 0)}, {asWord("a", 0), x}, {asCommand("p", 0), asOpen(1), x, asClose(2)}, {x, x}} {
			if May(l) || Print(l) != "" {
				t.Errorf("%v: May = %v, Print = %q", l, May(l), Print(l))
			}
		}
	}
}

// P5.2: each byte in a word's text and in a command's.
func TestMayBytes(t *testing.T) {
	for b := range 256 {
		one := string([]byte{byte(b)})
		letter := b >= 'a' && b <= 'z' || b >= 'A' && b <= 'Z'
		word := b < 0x80 && b != 9 && b != 10 && b != 13 && b != 32
		for _, s := range []string{one, one + "a", "a" + one, "a" + one + "a"} {
			if May([]api.Token{asCommand(s, 0)}) != letter {
				t.Errorf("the command %q: %v", s, !letter)
			}
			if May([]api.Token{asWord(s, 0)}) != word {
				t.Errorf("the word %q: %v", s, !word)
			}
		}
	}
}

// P5.2, P5.3, P2: all lists of up to three out of tokens that could be taken for
// others.
func TestShortLists(t *testing.T) {
	pool := []api.Token{asOpen(0), asClose(0), asCommand("a", 0), asCommand("aZ", 0), asWord("a", 0), asWord("Z", 0), asWord("1", 0), asWord("-", 0), asWord(soft, 0), asWord(`\`, 0), asWord(`\a`, 0), asWord("%", 0), asWord("{", 0), asWord("a}", 0), asWord("\xc3\xa4", 0)}
	check := func(l ...api.Token) {
		s := Print(l)
		if back, f := Lex(s); !slices.Equal(bare(back), l) || f != (api.Fault{}) || !May(l) {
			t.Errorf("%v is printed to %q and read to %v, %v", l, s, back, f)
		}
		if again, _ := Lex(s); Print(again) != s {
			t.Errorf("%q is read and printed to %q", s, Print(again))
		}
	}
	for _, a := range pool {
		check(a)
		for _, b := range pool {
			check(a, b)
			for _, d := range pool {
				check(a, b, d)
			}
		}
	}
}

// P1, R1: long lists and texts end in good time.
func TestLongLists(t *testing.T) {
	const many = 1 << 20
	l := slices.Repeat([]api.Token{asCommand("p", 0), asWord("a%", 0)}, many)
	if s := Print(l); s != strings.Repeat(`\p a\% `, many)[:7*many-1] {
		t.Errorf("a long list is printed to %d bytes", len(s))
	}
	if l = append(l, asWord("", 0)); May(l) || Print(l) != "" {
		t.Error("a long list that is not valid at its end")
	}
	for _, x := range []api.Token{asWord(strings.Repeat("a", many)+" ", 0), asWord(strings.Repeat("a", many)+"\xff", 0), asCommand(strings.Repeat("a", many)+"1", 0)} {
		if May([]api.Token{x}) || Print([]api.Token{x}) != "" {
			t.Error("a long text that is not valid at its end")
		}
	}
}
