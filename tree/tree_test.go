package tree

import (
	"math"
	"slices"
	"strings"
	"testing"

	"variorum/api"
	"variorum/lexer"
)

// Nodes, and tokens, each at a place.
func word(text string, at int) api.Node { return api.Node{Text: text, At: at} }
func command(name string, at int, args ...[]api.Node) api.Node {
	return api.Node{Command: true, Text: name, Args: args, At: at}
}
func asWord(text string, at int) api.Token { return api.Token{Kind: api.TokWord, Text: text, At: at} }
func asCommand(name string, at int) api.Token {
	return api.Token{Kind: api.TokCommand, Text: name, At: at}
}
func asOpen(at int) api.Token  { return api.Token{Kind: api.TokOpen, At: at} }
func asClose(at int) api.Token { return api.Token{Kind: api.TokClose, At: at} }

// list is a list of nodes.
func list(l ...api.Node) []api.Node { return l }

func lexed(t *testing.T, s string) []api.Token {
	t.Helper()
	l, f := lexer.Lex(s)
	if f != (api.Fault{}) {
		t.Fatalf("Lex(%q): %v", s, f)
	}
	return l
}

// equal tells whether lists are equal, in their At too.
func equal(a, b []api.Node) bool {
	return slices.EqualFunc(a, b, func(x, y api.Node) bool {
		return x.Command == y.Command && x.Text == y.Text && x.At == y.At && slices.EqualFunc(x.Args, y.Args, equal)
	})
}

// source is a text, and what it is parsed to.
type source struct {
	s    string
	want []api.Node
}

var sources = []source{
	{`\ed{a b}{\A{c}} d`, list(command("ed", 0, list(word("a", 4), word("b", 6)), list(command("A", 9, list(word("c", 12))))), word("d", 16))}, // the chapter's example
	{"", nil},
	{"% a\n", nil},
	{"a", list(word("a", 0))},
	{" a  b\nc", list(word("a", 1), word("b", 4), word("c", 6))},
	{`\p`, list(command("p", 0))},
	{`\p\q`, list(command("p", 0), command("q", 2))},
	{`\p a\q`, list(command("p", 0), word("a", 3), command("q", 4))},
	{`\p{}`, list(command("p", 0, nil))},
	{`\p{}{}`, list(command("p", 0, nil, nil))},
	{`\p{}{a}{}`, list(command("p", 0, nil, list(word("a", 5)), nil))},
	{`\p{a}{b}{c}`, list(command("p", 0, list(word("a", 3)), list(word("b", 6)), list(word("c", 9))))},
	{"\\p {a} % it\n\t{b}", list(command("p", 0, list(word("a", 4)), list(word("b", 14))))},
	{`\p{a}\q{b}`, list(command("p", 0, list(word("a", 3))), command("q", 5, list(word("b", 8))))},
	{`\p{\q}{\q}`, list(command("p", 0, list(command("q", 3)), list(command("q", 7))))},
	{`\p{\q{\r{a}{}}b}c`, list(command("p", 0, list(command("q", 3, list(command("r", 6, list(word("a", 9)), nil))), word("b", 14))), word("c", 16))},
	{`\p{\q{}}{}`, list(command("p", 0, list(command("q", 3, nil)), nil))},
	{`\p\{a\}`, list(command("p", 0), word("{a}", 2))},
	{`\text{\chunk{\p{aa}}}`, list(command("text", 0, list(command("chunk", 6, list(command("p", 13, list(word("aa", 16))))))))},
}

// P6.1: ordinary sources.
func TestParse(t *testing.T) {
	for _, x := range sources {
		if l, f := Parse(lexed(t, x.s)); !equal(l, x.want) || f != (api.Fault{}) {
			t.Errorf("%q: %v, %v, not %v", x.s, l, f, x.want)
		}
	}
}

func TestNumbers(t *testing.T) {
	if api.ErrTreeOpen != 60 || api.ErrTreeClose != 61 || api.ErrTreeEnd != 62 || api.ErrTreeDeep != 63 || api.MaxDepth != 64 {
		t.Error("a number is not the document's")
	}
}

func faulty(t *testing.T, l []api.Token, code api.Errno, at int) {
	t.Helper()
	if n, f := Parse(l); len(n) != 0 || f != (api.Fault{Code: code, At: at}) {
		t.Errorf("Parse(%v) = %v, %v, not %d at %d", l, n, f, code, at)
	}
}

// P6.1, R2: each fault, at its token; the first one if there are several; and
// nothing beside it.
func TestParseRefuses(t *testing.T) {
	for s, want := range map[string]api.Fault{
		"{":          {Code: 60, At: 0},
		" {}":        {Code: 60, At: 1},
		"a{}":        {Code: 60, At: 1},
		`\p a{b}`:    {Code: 60, At: 4},
		`\p{{}}`:     {Code: 60, At: 3},
		`\p{}{{`:     {Code: 60, At: 5},
		`\p{a{b}}`:   {Code: 60, At: 4},
		`\p{a} b{}`:  {Code: 60, At: 7},
		`\p{\q a{`:   {Code: 60, At: 7},
		`\p{{}}}`:    {Code: 60, At: 3},
		"}":          {Code: 61, At: 0},
		"a b }":      {Code: 61, At: 4},
		`\p}`:        {Code: 61, At: 2},
		`\p{}}`:      {Code: 61, At: 4},
		`\p{}}{`:     {Code: 61, At: 4},
		`\p{}} \q{`:  {Code: 61, At: 4},
		`}{`:         {Code: 61, At: 0},
		`{}}`:        {Code: 60, At: 0},
		`\p{`:        {Code: 62, At: 2},
		`\p {a`:      {Code: 62, At: 3},
		`\p{}{`:      {Code: 62, At: 4},
		`\p{\q{`:     {Code: 62, At: 5},
		`\p{\q{}`:    {Code: 62, At: 2},
		`\p{\q{}{a`:  {Code: 62, At: 7},
		`\p{\q{}a`:   {Code: 62, At: 2},
		`\a{\b{\c{}`: {Code: 62, At: 5},
	} {
		faulty(t, lexed(t, s), want.Code, want.At)
	}
}

// nested is a source of n groups in one another.
func nested(n int, inside string) string {
	return strings.Repeat(`\p{`, n) + inside + strings.Repeat("}", n)
}

// P6.1: 64 groups in one another, and no more; where a group belongs to no
// command, that is told, however deep it is.
func TestParseDeep(t *testing.T) {
	for _, n := range []int{1, 63, 64} {
		l, f := Parse(lexed(t, nested(n, "a")))
		if f != (api.Fault{}) || Depth(l) != n || !slices.Equal(Words(l), []string{"a"}) || !May(l) {
			t.Errorf("%d groups: depth %d, %v", n, Depth(l), f)
		}
	}
	wide := nested(64, `\p\p a`) + nested(64, "")
	if l, f := Parse(lexed(t, wide)); f != (api.Fault{}) || Depth(l) != 64 || len(l) != 2 {
		t.Errorf("64 groups twice: %d nodes, depth %d, %v", len(l), Depth(l), f)
	}
	const at = 3 * 64
	faulty(t, lexed(t, nested(65, "a")), api.ErrTreeDeep, at+2)
	faulty(t, lexed(t, nested(64, `\p {`)), api.ErrTreeDeep, at+3)
	faulty(t, lexed(t, nested(64, "a")+nested(65, "")), api.ErrTreeDeep, at+1+64+at+2)
	faulty(t, lexed(t, strings.Repeat(`\p{`, 65)), api.ErrTreeDeep, at+2)
	faulty(t, lexed(t, strings.Repeat(`\p{`, 64)), api.ErrTreeEnd, at-1)
	faulty(t, lexed(t, nested(64, "{")), api.ErrTreeOpen, at)
	faulty(t, lexed(t, nested(64, "a{")), api.ErrTreeOpen, at+1)
	faulty(t, lexed(t, nested(63, `\p{}a{`)), api.ErrTreeOpen, at+2)
	faulty(t, lexed(t, nested(64, "}")), api.ErrTreeClose, at+1+63)
}

// P6.1: tokens of other kinds are as if they were not there, and neither texts
// nor places of tokens are judged.
func TestParseOddTokens(t *testing.T) {
	for _, kind := range []int{-1, 4, 5, 256, 1 << 32, math.MaxInt, math.MinInt} {
		odd := api.Token{Kind: kind, Text: "odd", At: 7}
		l := []api.Token{odd, asCommand("p", 1), odd, asOpen(2), odd, asWord("a", 3), odd, odd, asClose(4), odd, asOpen(5), odd, asClose(6), odd}
		if n, f := Parse(l); !equal(n, list(command("p", 1, list(word("a", 3)), nil))) || f != (api.Fault{}) {
			t.Errorf("kind %d: %v, %v", kind, n, f)
		}
		if n, f := Parse([]api.Token{odd}); len(n) != 0 || f != (api.Fault{}) {
			t.Errorf("kind %d alone: %v, %v", kind, n, f)
		}
		faulty(t, []api.Token{odd, asOpen(3)}, api.ErrTreeOpen, 3)
		faulty(t, []api.Token{asWord("a", 1), odd, asOpen(3)}, api.ErrTreeOpen, 3)
		faulty(t, []api.Token{asCommand("p", 0), asOpen(3), odd}, api.ErrTreeEnd, 3)
	}
	l := []api.Token{asCommand("", math.MinInt), {Kind: api.TokOpen, Text: "x", At: 9}, asWord("", -3), asWord("\xff {", -3), asCommand("a b", math.MaxInt), {Kind: api.TokClose, Text: "y", At: 8}}
	want := list(command("", math.MinInt, list(word("", -3), word("\xff {", -3), command("a b", math.MaxInt))))
	if n, f := Parse(l); !equal(n, want) || f != (api.Fault{}) {
		t.Errorf("%v, %v", n, f)
	}
	for _, at := range []int{-1, -7, math.MinInt, math.MaxInt} {
		faulty(t, []api.Token{asOpen(at)}, api.ErrTreeOpen, at)
		faulty(t, []api.Token{asClose(at)}, api.ErrTreeClose, at)
		faulty(t, []api.Token{asCommand("p", 1), asOpen(at)}, api.ErrTreeEnd, at)
	}
}

// faultOf is P6.1's faults by another way: behind a group there is always a
// command ahead of it, so that the token ahead tells whether one may be opened.
func faultOf(l []api.Token) api.Fault {
	var open []int
	for i, t := range l {
		switch t.Kind {
		case api.TokOpen:
			if i == 0 || l[i-1].Kind != api.TokCommand && l[i-1].Kind != api.TokClose {
				return api.Fault{Code: 60, At: t.At}
			}
			if len(open) == 64 {
				return api.Fault{Code: 63, At: t.At}
			}
			open = append(open, t.At)
		case api.TokClose:
			if len(open) == 0 {
				return api.Fault{Code: 61, At: t.At}
			}
			open = open[:len(open)-1]
		}
	}
	if len(open) > 0 {
		return api.Fault{Code: 62, At: open[len(open)-1]}
	}
	return api.Fault{}
}

// nodesOf is P6.1's nodes by another way, by descent; it answers what is left
// from a TokClose on.
func nodesOf(l []api.Token) (nodes []api.Node, rest []api.Token) {
	for len(l) > 0 && l[0].Kind != api.TokClose {
		n := api.Node{Command: l[0].Kind == api.TokCommand, Text: l[0].Text, At: l[0].At}
		l = l[1:]
		for len(l) > 0 && l[0].Kind == api.TokOpen {
			var arg []api.Node
			arg, l = nodesOf(l[1:])
			n.Args = append(n.Args, arg)
			l = l[1:]
		}
		nodes = append(nodes, n)
	}
	return nodes, l
}

func known(l []api.Token) []api.Token {
	return slices.DeleteFunc(slices.Clone(l), func(t api.Token) bool { return t.Kind < 0 || t.Kind > 3 })
}

// holds holds a list of tokens against the chapter's words, and checks what
// follows of it.
func holds(t *testing.T, l []api.Token) {
	t.Helper()
	n, f := Parse(l)
	fault := faultOf(known(l))
	var want []api.Node
	if fault == (api.Fault{}) {
		want, _ = nodesOf(known(l))
	}
	if !equal(n, want) || f != fault {
		t.Errorf("Parse(%v) = %v, %v, not %v, %v", l, n, f, want, fault)
	}
	if f != (api.Fault{}) {
		return
	}
	if !May(n) {
		t.Errorf("Parse(%v) = %v, which is not valid", l, n)
	}
	if flat := Flat(n); !slices.Equal(unplaced(flat), unplaced(known(l))) {
		t.Errorf("Parse(%v) = %v, but flat it is %v", l, n, flat)
	}
	returns(t, n)
}

// unplaced are tokens without the places of groups.
func unplaced(l []api.Token) []api.Token {
	l = slices.Clone(l)
	for i := range l {
		if l[i].Kind == api.TokOpen || l[i].Kind == api.TokClose {
			l[i].At = 0
		}
	}
	return l
}

// returns checks that a valid list is parsed from its tokens unchanged (P6.3).
func returns(t *testing.T, n []api.Node) {
	t.Helper()
	if again, f := Parse(Flat(n)); !equal(again, n) || f != (api.Fault{}) {
		t.Errorf("%v flat and parsed is %v, %v", n, again, f)
	}
}

// P6.1, P6.3: all short lists of tokens of all kinds.
func TestShortLists(t *testing.T) {
	var grow func(l []api.Token, more int)
	grow = func(l []api.Token, more int) {
		holds(t, l)
		if more == 0 {
			return
		}
		at := 10 * (len(l) + 1)
		text := string(rune('a' + len(l)))
		for _, next := range []api.Token{asWord(text, at), asCommand(text, at), asOpen(at), asClose(at), {Kind: api.TokKinds, At: at}} {
			grow(append(slices.Clone(l), next), more-1)
		}
	}
	grow(nil, 7)
}

// P6.1: longer lists of a word, commands and groups alone, where most are whole.
func TestLongerLists(t *testing.T) {
	pieces := [][]api.Token{{asWord("a", 1)}, {asCommand("p", 2), asOpen(3)}, {asCommand("q", 4)}, {asClose(5)}, {asClose(6), asOpen(7)}}
	var grow func(l []api.Token, more int)
	grow = func(l []api.Token, more int) {
		holds(t, l)
		if more == 0 {
			return
		}
		for _, next := range pieces {
			grow(slices.Concat(l, next), more-1)
		}
	}
	grow(nil, 7)
}

// P2: a tree that is printed, by its tokens, is read back.
func TestPrintedTrees(t *testing.T) {
	for _, x := range sources {
		n, _ := Parse(lexed(t, x.s))
		again, f := Parse(lexed(t, lexer.Print(Flat(n))))
		if !Same(n, again) || f != (api.Fault{}) {
			t.Errorf("%q: printed and read back it is %v, %v", x.s, again, f)
		}
	}
}

// P1, R1: long lists of tokens end in good time.
func TestLongTokens(t *testing.T) {
	const many = 1 << 18
	for piece, nodes := range map[string]int{"a": many, `\p`: many, `\p{}`: many, `\p{a}{\q{b}}`: many} {
		l := slices.Repeat(lexed(t, piece), many)
		n, f := Parse(l)
		if len(n) != nodes || f != (api.Fault{}) {
			t.Errorf("many of %q: %d nodes, %v", piece, len(n), f)
		}
		if !Same(n, n) || !May(n) || !slices.Equal(unplaced(Flat(n)), unplaced(l)) {
			t.Errorf("many of %q: not the same, not valid or not flat", piece)
		}
		faulty(t, append(l, asClose(-9)), api.ErrTreeClose, -9)
	}
	l := append([]api.Token{asCommand("p", 0)}, slices.Repeat([]api.Token{asOpen(1), asClose(2)}, many)...)
	if n, f := Parse(l); len(n) != 1 || len(n[0].Args) != many || f != (api.Fault{}) {
		t.Errorf("many arguments: %v", f)
	}
	faulty(t, slices.Repeat([]api.Token{asOpen(5)}, many), api.ErrTreeOpen, 5)
	faulty(t, slices.Repeat([]api.Token{asCommand("p", 4), asOpen(5)}, many), api.ErrTreeDeep, 5)
	faulty(t, slices.Repeat([]api.Token{asClose(5)}, many), api.ErrTreeClose, 5)
}

// R3: an answer does not hang on earlier calls.
func TestNothingKept(t *testing.T) {
	for range 2 {
		for _, x := range sources {
			Parse(lexed(t, `\p{\q{`))
			Parse(lexed(t, `a}`))
			if n, f := Parse(lexed(t, x.s)); !equal(n, x.want) || f != (api.Fault{}) {
				t.Errorf("%q: %v, %v", x.s, n, f)
			}
		}
	}
}

// spoil writes over all that a list of nodes reaches, its spare room too.
func spoil(l []api.Node) {
	for _, n := range l {
		for _, arg := range n.Args {
			spoil(arg)
		}
		for i := range n.Args[:cap(n.Args)] {
			n.Args[:cap(n.Args)][i] = list(word("spoilt", 1))
		}
	}
	for i := range l[:cap(l)] {
		l[:cap(l)][i] = command("spoilt", 1, nil)
	}
}

// rooms visits the places of all nodes and of all arguments, in spare room too.
func rooms(l []api.Node, visit func(any)) {
	for _, n := range l {
		for _, arg := range n.Args {
			rooms(arg, visit)
		}
		for i := range n.Args[:cap(n.Args)] {
			visit(&n.Args[:cap(n.Args)][i])
		}
	}
	for i := range l[:cap(l)] {
		visit(&l[:cap(l)][i])
	}
}

// R4: tokens that are parsed stay as they are, and no two lists of the answers
// share memory.
func TestParseShares(t *testing.T) {
	s := `\ed{a b}{\A{c}{}\B{d}{e f g}} h \p{\q{}{}{i}}{} \r`
	l := lexed(t, s)
	kept := slices.Clone(l)
	one, _ := Parse(l)
	two, _ := Parse(l)
	seen := map[any]struct{}{}
	for _, n := range [][]api.Node{one, two} {
		rooms(n, func(p any) {
			if _, ok := seen[p]; ok {
				t.Error("two lists share memory")
			}
			seen[p] = struct{}{}
		})
	}
	spoil(one)
	if !slices.Equal(l, kept) {
		t.Errorf("the tokens became %v", l)
	}
	if three, _ := Parse(l); !equal(two, three) {
		t.Errorf("a result became %v", two)
	}
	for i := range l {
		l[i] = asWord("spoilt", 1)
	}
	if want, _ := Parse(kept); !equal(two, want) {
		t.Errorf("a result became %v", two)
	}
}

// R5: nil is empty.
func TestParseEmpty(t *testing.T) {
	for _, none := range [][]api.Token{nil, {}} {
		if n, f := Parse(none); len(n) != 0 || f != (api.Fault{}) {
			t.Errorf("%#v: %v, %v", none, n, f)
		}
	}
}
