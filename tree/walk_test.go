package tree

import (
	"math"
	"slices"
	"strconv"
	"strings"
	"testing"

	"variorum/api"
)

// A word with arguments, which Parse never makes.
func oddWord(text string, at int, args ...[]api.Node) api.Node {
	return api.Node{Text: text, Args: args, At: at}
}

// trees are lists of nodes, and what is to be told of them.
var trees = []struct {
	l     []api.Node
	flat  []api.Token
	depth int
	words []string
	may   bool
}{
	{nil, nil, 0, nil, true},
	{list(word("a", 7)), []api.Token{asWord("a", 7)}, 0, []string{"a"}, true},
	{list(command("p", 7)), []api.Token{asCommand("p", 7)}, 0, nil, true},
	{list(command("p", 7, nil)), []api.Token{asCommand("p", 7), asOpen(7), asClose(7)}, 1, nil, true},
	{list(command("p", -1, nil, list())), []api.Token{asCommand("p", -1), asOpen(-1), asClose(-1), asOpen(-1), asClose(-1)}, 1, nil, true},
	{list(command("ed", 0, list(word("a", 4), word("b", 6)), list(command("A", 9, list(word("c", 12))))), word("d", 16)), // the chapter's example
		[]api.Token{asCommand("ed", 0), asOpen(0), asWord("a", 4), asWord("b", 6), asClose(0), asOpen(0), asCommand("A", 9), asOpen(9), asWord("c", 12), asClose(9), asClose(0), asWord("d", 16)},
		2, []string{"a", "b", "c", "d"}, true},
	{list(word("a", 1), command("p", 2, list(command("q", 3))), command("r", 4, list(word("a", 5))), word("", 6)),
		[]api.Token{asWord("a", 1), asCommand("p", 2), asOpen(2), asCommand("q", 3), asClose(2), asCommand("r", 4), asOpen(4), asWord("a", 5), asClose(4), asWord("", 6)},
		1, []string{"a", "a", ""}, true},
	{list(oddWord("a", 1, list())), []api.Token{asWord("a", 1)}, 1, []string{"a"}, false},
	{list(oddWord("a", 1, list(word("b", 2)), list(command("p", 3, list(word("c", 4))))), word("d", 5)), []api.Token{asWord("a", 1), asWord("d", 5)}, 2, []string{"a", "d"}, false},
	{list(command("p", 1, list(oddWord("a", 2, list(word("b", 3)))))), []api.Token{asCommand("p", 1), asOpen(1), asWord("a", 2), asClose(1)}, 2, []string{"a"}, false},
	{list(api.Node{Text: "e", Args: [][]api.Node{}, At: 1}), []api.Token{asWord("e", 1)}, 0, []string{"e"}, true},
	{list(command("\xff", math.MinInt, list(word("{ \\", math.MaxInt)))), []api.Token{asCommand("\xff", math.MinInt), asOpen(math.MinInt), asWord("{ \\", math.MaxInt), asClose(math.MinInt)}, 1, []string{"{ \\"}, true},
}

// P6.2: ordinary lists, and words with arguments.
func TestTrees(t *testing.T) {
	for i, x := range trees {
		if l := Flat(x.l); !slices.Equal(l, x.flat) {
			t.Errorf("Flat of list %d: %v, not %v", i, l, x.flat)
		}
		if n := Depth(x.l); n != x.depth {
			t.Errorf("Depth of list %d: %d, not %d", i, n, x.depth)
		}
		if l := Words(x.l); !slices.Equal(l, x.words) {
			t.Errorf("Words of list %d: %q, not %q", i, l, x.words)
		}
		if ok := May(x.l); ok != x.may {
			t.Errorf("May of list %d: %v", i, ok)
		}
		for k, y := range trees {
			if ok := Same(x.l, y.l); ok != (i == k) {
				t.Errorf("Same of lists %d and %d: %v", i, k, ok)
			}
		}
		if x.may {
			returns(t, x.l)
		}
	}
}

// P6.2: what counts for Same, at any depth, and what does not.
func TestSame(t *testing.T) {
	whole := func(n ...api.Node) []api.Node {
		return list(command("p", 1, list(word("a", 2)), slices.Concat(list(word("b", 3)), n)), word("c", 4))
	}
	base := command("q", 5, list(word("d", 6), word("e", 7)), nil)
	for _, n := range []api.Node{
		base,
		command("q", -8, list(word("d", 0), word("e", math.MaxInt)), list()),
	} {
		if !Same(whole(base), whole(n)) || !Same(whole(n), whole(base)) || !Same(list(n), list(base)) {
			t.Errorf("%v is another one", n)
		}
	}
	for _, n := range []api.Node{
		command("Q", 5, list(word("d", 6), word("e", 7)), nil),
		oddWord("q", 5, list(word("d", 6), word("e", 7)), nil),
		command("q", 5, list(word("d", 6), word("e", 7))),
		command("q", 5, nil, list(word("d", 6), word("e", 7))),
		command("q", 5, list(word("d", 6), word("e", 7)), nil, nil),
		command("q", 5, list(word("d", 6), word("e", 7)), list(word("", 0))),
		command("q", 5, list(word("d", 6)), list(word("e", 7))),
		command("q", 5, list(word("e", 6), word("d", 7)), nil),
		command("q", 5, list(word("d", 6), word("f", 7)), nil),
		command("q", 5, list(word("d", 6)), nil),
		command("q", 5, list(word("d", 6), command("e", 7)), nil),
		command("q", 5, list(word("d", 6), oddWord("e", 7, nil)), nil),
		command("q", 5),
	} {
		if Same(whole(base), whole(n)) || Same(whole(n), whole(base)) || Same(list(n), list(base)) {
			t.Errorf("%v is the same", n)
		}
	}
	if Same(whole(), whole(base)) || Same(whole(base), whole()) || Same(whole(base), whole(base, base)) || Same(whole(base)[:1], whole(base)) {
		t.Error("a list is the same as its beginning")
	}
}

// chain is n commands in one another, a list inside the last one.
func chain(n int, inside ...api.Node) []api.Node {
	l := inside
	for at := n - 1; at >= 0; at-- {
		l = list(command("p", at, l))
	}
	return l
}

// P6.2: depths about those that are cut off, and those that are no longer valid.
func TestDeep(t *testing.T) {
	for n := range 300 {
		l := chain(n, word("a", n))
		beside := slices.Concat(chain(min(n, 3)), l, list(word("b", 0)))
		for _, x := range [][]api.Node{l, chain(n, command("p", 0)), beside} {
			if Depth(x) != min(n, 101) || May(x) != (n <= 64) {
				t.Errorf("%d groups: Depth %d, May %v", n, Depth(x), May(x))
			}
		}
		commands, groups, words := min(n, 101), min(n, 100), []string{"a"}
		if n > 100 {
			words = nil
		}
		if flat := Flat(l); len(flat) != commands+2*groups+len(words) || !slices.Equal(Words(l), words) {
			t.Errorf("Flat of %d groups: %d tokens, words %q", n, len(flat), Words(l))
		}
		if !slices.Equal(Words(beside), append(words, "b")) {
			t.Errorf("words beside %d groups: %q", n, Words(beside))
		}
		if !Same(l, chain(n, word("a", -1))) || Same(l, chain(n+1, word("a", n))) || Same(l, chain(n, word("b", n))) || Same(l, chain(n)) {
			t.Errorf("Same of %d groups", n)
		}
		if n <= 64 {
			returns(t, beside)
		}
	}
}

// P6.2: where arguments are cut off, the commands that they belong to stay, and
// groups are whole.
func TestCutOff(t *testing.T) {
	l := chain(100, command("q", 1, list(word("a", 2))), word("b", 3), command("r", 4, nil))
	flat := Flat(l)
	want := []api.Token{asCommand("p", 99), asOpen(99), asCommand("q", 1), asWord("b", 3), asCommand("r", 4), asClose(99)}
	if !slices.Equal(flat[2*99:2*99+len(want)], want) || len(flat) != 3*100+3 {
		t.Errorf("%v", flat)
	}
	for at := range 100 {
		if flat[2*at] != asCommand("p", at) || flat[2*at+1] != asOpen(at) || flat[len(flat)-1-at] != asClose(at) {
			t.Errorf("the group at %d", at)
		}
	}
	if d := Depth(l); d != 101 || !slices.Equal(Words(l), []string{"b"}) {
		t.Errorf("depth %d, words %q", d, Words(l))
	}
}

// P6.2: May and Depth find what is deep, wherever it lies, and a word with
// arguments at any depth.
func TestFoundDeep(t *testing.T) {
	for _, depth := range []int{0, 1, 63, 64, 65, 99, 100, 101, 200} {
		odd := oddWord("a", 0, nil)
		for _, l := range [][]api.Node{chain(depth, odd), chain(depth, word("b", 0), odd), slices.Concat(chain(2), chain(depth, odd), chain(1)), list(command("p", 0, chain(1), chain(depth, odd), nil))} {
			if May(l) {
				t.Errorf("a word with arguments in %d groups is valid", depth)
			}
		}
		if d := Depth(chain(depth, odd)); d != min(depth+1, 101) {
			t.Errorf("a word with arguments in %d groups: depth %d", depth, d)
		}
		if d := Depth(chain(depth, oddWord("a", 0, chain(depth)))); d != min(2*depth+1, 101) {
			t.Errorf("a word with %d groups in %d groups: depth %d", depth, depth, d)
		}
		if l := chain(depth, oddWord("a", 0, chain(depth))); len(Flat(l)) > 3*100+1 {
			t.Errorf("a word with %d groups in %d groups: %d tokens", depth, depth, len(Flat(l)))
		}
	}
}

// The chapter's words by another way: by calls that follow them one by one.

func depthOf(l []api.Node) int {
	depth := 0
	for _, n := range l {
		for _, arg := range n.Args {
			depth = max(depth, 1+depthOf(arg))
		}
	}
	return depth
}

func flatOf(l []api.Node) []api.Token {
	var tokens []api.Token
	for _, n := range l {
		args := n.Args
		tokens = append(tokens, asWord(n.Text, n.At))
		if !n.Command {
			args = nil
		} else {
			tokens[len(tokens)-1].Kind = api.TokCommand
		}
		for _, arg := range args {
			tokens = slices.Concat(tokens, []api.Token{asOpen(n.At)}, flatOf(arg), []api.Token{asClose(n.At)})
		}
	}
	return tokens
}

func mayOf(l []api.Node) bool {
	return depthOf(l) <= 64 && !slices.ContainsFunc(l, func(n api.Node) bool {
		return !n.Command && len(n.Args) > 0 || slices.ContainsFunc(n.Args, func(arg []api.Node) bool { return !mayOf(arg) })
	})
}

// textOf tells lists apart by all but their At.
func textOf(l []api.Node) string {
	var s strings.Builder
	for _, n := range l {
		s.WriteString(strconv.FormatBool(n.Command) + strconv.Quote(n.Text))
		for _, arg := range n.Args {
			s.WriteString("{" + textOf(arg) + "}")
		}
	}
	return s.String()
}

// lists are all lists of so many nodes and arguments together, of two texts.
func lists(size int) [][]api.Node {
	if size == 0 {
		return [][]api.Node{nil}
	}
	var all [][]api.Node
	for used := range size {
		for _, args := range argumentLists(used) {
			for _, rest := range lists(size - 1 - used) {
				for _, text := range []string{"a", "b"} {
					all = append(all, slices.Concat(list(command(text, 1, args...)), rest), slices.Concat(list(oddWord(text, 2, args...)), rest))
				}
			}
		}
	}
	return all
}

// argumentLists are all arguments of a node, of so many nodes and arguments.
func argumentLists(size int) [][][]api.Node {
	if size == 0 {
		return [][][]api.Node{nil}
	}
	var all [][][]api.Node
	for used := range size {
		for _, arg := range lists(used) {
			for _, rest := range argumentLists(size - 1 - used) {
				all = append(all, slices.Concat([][]api.Node{arg}, rest))
			}
		}
	}
	return all
}

// P6.2, P6.3: all small lists, valid or not.
func TestSmallLists(t *testing.T) {
	for size := range 6 {
		for _, l := range lists(size) {
			flat := flatOf(l)
			if !slices.Equal(Flat(l), flat) || Depth(l) != depthOf(l) || May(l) != mayOf(l) || !Same(l, l) {
				t.Errorf("%s: Flat %v, Depth %d, May %v", textOf(l), Flat(l), Depth(l), May(l))
			}
			var words []string
			for _, x := range flat {
				if x.Kind == api.TokWord {
					words = append(words, x.Text)
				}
			}
			if !slices.Equal(Words(l), words) {
				t.Errorf("%s: Words %q, not %q", textOf(l), Words(l), words)
			}
			if mayOf(l) {
				returns(t, l)
			}
		}
	}
}

// P6.2: all pairs of small lists.
func TestSmallPairs(t *testing.T) {
	var all [][]api.Node
	var texts []string
	for size := range 5 {
		for _, l := range lists(size) {
			all, texts = append(all, l), append(texts, textOf(l))
		}
	}
	for i, a := range all {
		for k, b := range all {
			if Same(a, b) != (texts[i] == texts[k]) {
				t.Errorf("Same(%s, %s) = %v", texts[i], texts[k], Same(a, b))
			}
		}
	}
}

// endless is a list that holds itself, many times.
func endless(name string, times int) []api.Node {
	l := list(command(name, 1))
	l[0].Args = slices.Repeat([][]api.Node{l}, times)
	return l
}

// doubled are lists in one another that each hold the next one twice.
func doubled(n int, inside ...api.Node) []api.Node {
	l := inside
	for range n {
		l = list(command("p", 1, l, l))
	}
	return l
}

// P1, R1: lists that hold themselves or share their arguments, and lists deeper
// than any that are parsed, end in good time.
func TestSharedNodes(t *testing.T) {
	for _, times := range []int{1, 2, 5} {
		l := endless("p", times)
		if Depth(l) != 101 || May(l) || !Same(l, l) || !Same(l, endless("p", times)) {
			t.Errorf("a list that holds itself %d times: depth %d", times, Depth(l))
		}
		if Same(l, endless("q", times)) || Same(l, endless("p", times+1)) || Same(l, chain(500)) || Same(chain(500), l) {
			t.Errorf("a list that holds itself %d times is another one", times)
		}
	}
	if l := endless("p", 1); len(Flat(l)) != 301 || len(Words(l)) != 0 {
		t.Errorf("a list that holds itself: %d tokens", len(Flat(l)))
	}
	for _, n := range []int{60, 90} {
		l, odd := doubled(n, word("a", 1)), doubled(n, oddWord("a", 1, nil))
		if Depth(l) != n || May(l) != (n <= 64) || May(odd) || !Same(l, doubled(n, word("a", 2))) || Same(l, odd) || Same(l, doubled(n+1, word("a", 1))) {
			t.Errorf("lists doubled %d times: depth %d, May %v", n, Depth(l), May(l))
		}
	}
	const many = 1 << 18
	l := chain(many, word("a", 1))
	if Depth(l) != 101 || May(l) || len(Flat(l)) != 301 || len(Words(l)) != 0 {
		t.Errorf("%d groups: depth %d, %d tokens", many, Depth(l), len(Flat(l)))
	}
	if !Same(l, chain(many, word("a", 2))) || Same(l, chain(many, word("b", 1))) || Same(l, chain(many+1, word("a", 1))) {
		t.Errorf("Same of %d groups", many)
	}
}

// P6.2: lists that begin at one place, but are not equally long, are different
// lists.
func TestSharedBeginnings(t *testing.T) {
	l := list(word("a", 1), command("p", 2, list(oddWord("b", 3, nil))))
	one, two := l[:1], l[:2]
	for _, args := range [][][]api.Node{{one, two}, {two, one}} {
		n := list(command("q", 0, args...))
		if Depth(n) != 3 || May(n) {
			t.Errorf("%v: Depth %d, May %v", n, Depth(n), May(n))
		}
		for _, other := range [][][]api.Node{{one, one}, {two, two}, {args[1], args[0]}} {
			if m := list(command("q", 0, other...)); Same(n, m) || Same(m, n) {
				t.Errorf("Same(%v, %v)", n, m)
			}
		}
	}
}

// P1, R1: long lists end in good time.
func TestLongNodes(t *testing.T) {
	const many = 1 << 18
	one := list(command("p", 1, list(word("a", 2)), nil))
	long := slices.Repeat(one, many)
	apart := make([]api.Node, many)
	for i := range apart {
		apart[i] = command("p", i, list(word("a", i)), list())
	}
	for _, l := range [][]api.Node{long, apart, list(command("p", 1, long)), list(command("p", 1, slices.Repeat([][]api.Node{one}, many)...))} {
		if !May(l) || Depth(l) > 2 || len(Words(l)) != many || len(Flat(l)) < 6*many || !Same(l, l) {
			t.Errorf("a long list: depth %d, %d words, %d tokens", Depth(l), len(Words(l)), len(Flat(l)))
		}
	}
	if !Same(long, apart) || Same(long, apart[1:]) || May(append(apart, oddWord("b", 0, nil))) || Same(long, append(apart[:many-1:many-1], word("p", 0))) {
		t.Error("long lists")
	}
}

// R3, R4: nodes that are asked about stay as they are, and no answer hangs on
// one that was written over.
func TestNodesShare(t *testing.T) {
	for i, x := range trees {
		for range 2 {
			text, flat, words := textOf(x.l), Flat(x.l), Words(x.l)
			for k := range flat[:cap(flat)] {
				flat[:cap(flat)][k] = asOpen(99)
			}
			for k := range words[:cap(words)] {
				words[:cap(words)][k] = "spoilt"
			}
			Depth(x.l)
			May(x.l)
			Same(x.l, chain(3))
			if !slices.Equal(Flat(x.l), x.flat) || !slices.Equal(Words(x.l), x.words) || textOf(x.l) != text {
				t.Errorf("list %d became %v", i, x.l)
			}
		}
	}
	l := chain(2, word("a", 5))
	flat, words := Flat(l), Words(l)
	spoil(l)
	if !slices.Equal(flat, Flat(chain(2, word("a", 5)))) || !slices.Equal(words, []string{"a"}) {
		t.Errorf("results became %v, %q", flat, words)
	}
}

// R5: nil is empty, as a list, as arguments and as an argument.
func TestNodesEmpty(t *testing.T) {
	for _, none := range [][]api.Node{nil, {}} {
		if len(Flat(none)) != 0 || Depth(none) != 0 || len(Words(none)) != 0 || !May(none) || !Same(none, nil) || !Same(none, list()) || Same(none, list(word("", 0))) {
			t.Errorf("%#v: %v, %d, %q, %v", none, Flat(none), Depth(none), Words(none), May(none))
		}
		l := list(command("p", 1, none))
		if len(Flat(l)) != 3 || Depth(l) != 1 || !May(l) || !Same(l, list(command("p", 1, nil))) || !Same(list(command("p", 1, list())), l) {
			t.Errorf("%#v: %v, %d, %v", l, Flat(l), Depth(l), May(l))
		}
	}
	for _, kind := range []bool{false, true} {
		a, b := list(api.Node{Command: kind, Args: [][]api.Node{}}), list(api.Node{Command: kind})
		if !Same(a, b) || !Same(b, a) || Depth(a) != 0 || !May(a) || len(Flat(a)) != 1 {
			t.Errorf("%#v: %d, %v", a, Depth(a), May(a))
		}
	}
}
