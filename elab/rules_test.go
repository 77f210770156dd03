package elab

import (
	"errors"
	"reflect"
	"slices"
	"strconv"
	"strings"
	"testing"
	"unsafe"

	"variorum/api"
)

// whole is a source that has everything; its doc is not to change.
const whole = `\left{\chunk{\set{4}\p{a \ed{b\label{k} c}{\A{x \sig{A C2} \ref{l}}\B{y}} d}\verse{\l{e}\l{f \ed{\ed{g}{\end{z}}}{\fA{\ref{k}}}}}}}\right{\chunk{\p{h \label{l}\ed{i}{\E{\sig{B} v}}}}}`

// lies tells whether a text lies in another one's memory.
func lies(part, s string) bool {
	from, at := uintptr(unsafe.Pointer(unsafe.StringData(s))), uintptr(unsafe.Pointer(unsafe.StringData(part)))
	return part != "" && at >= from && at < from+uintptr(len(s))
}

// texts are all those of the nodes.
func texts(l []api.Node) []string {
	var all []string
	for _, n := range l {
		all = append(all, n.Text)
		for _, arg := range n.Args {
			all = append(all, texts(arg)...)
		}
	}
	return all
}

// docTexts are all those of a doc.
func docTexts(d api.Doc) []string {
	var all []string
	for _, s := range d.Sides {
		all = append(all, s.Words...)
		for _, n := range s.Notes {
			for _, x := range n.Text {
				all = append(all, x.Text)
			}
		}
	}
	for _, l := range d.Labels {
		all = append(all, l.Name)
	}
	return all
}

// spoil writes over all nodes.
func spoil(l []api.Node) {
	for i := range l {
		for k := range l[i].Args {
			spoil(l[i].Args[k])
			l[i].Args[k] = nil
		}
		l[i] = api.Node{Text: "spoilt", At: -9}
	}
}

// overrun writes behind the end of each list of a doc, as far as there is room.
func overrun(d *api.Doc) {
	behind(d.Sides, api.Side{Words: []string{"spoilt"}})
	behind(d.Labels, api.Label{Name: "spoilt"})
	for _, s := range d.Sides {
		behind(s.Chunks, []api.Para{{From: -9}})
		behind(s.Words, "spoilt")
		behind(s.Notes, api.Note{From: -9})
		for _, c := range s.Chunks {
			behind(c, api.Para{From: -9})
			for _, p := range c {
				behind(p.Ends, -9)
			}
		}
		for _, n := range s.Notes {
			behind(n.Text, api.Said{Text: "spoilt"})
		}
	}
}

func behind[T any](l []T, x T) {
	for i := len(l); i < cap(l); i++ {
		l[:cap(l)][i] = x
	}
}

// R3: what a call answers does not hang on earlier ones.
func TestNoState(t *testing.T) {
	d, _ := Make(of(t, whole), witnesses())
	want := textOf(d)
	for range 3 {
		makes(t, whole, want)
		refuses(t, 147, prose(`a\label{k}\label{^k}`))
		refuses(t, 151, noted(`\ref{^k}`))
		refuses(t, 148, noted(`\sig{^D}`))
		refuses(t, 149, prose(words(5000)+`^w`))
		makes(t, prose(`a\label{k}`), "side 0\n[0-1]\na\nlabel k of 0 at 1\n")
	}
}

// R4: arguments stay as they are, also beside a fault.
func TestArguments(t *testing.T) {
	for _, s := range []string{whole, whole + `\q`, noted(`\sig{D}`), noted(`\ref{x}`), prose(`a\label{a}\label{a}`)} {
		l, table := of(t, s), witnesses()
		Make(l, table)
		if !reflect.DeepEqual(l, of(t, s)) || !slices.Equal(table, witnesses()) {
			t.Errorf("%q became %v, or the table %v", s, l, table)
		}
	}
}

// R4: a doc is new memory, and so is each of its lists.
func TestNewMemory(t *testing.T) {
	l, table := of(t, whole), witnesses()
	one, f := Make(l, table)
	two, _ := Make(l, table)
	want := textOf(two)
	if f != (api.Fault{}) || textOf(one) != want {
		t.Fatal(f)
	}
	given := texts(l)
	for _, x := range table {
		given = append(given, x.Key)
	}
	for i, s := range docTexts(one) {
		for _, x := range given {
			if lies(s, x) {
				t.Errorf("%q lies in an argument", s)
			}
		}
		for k, x := range append(docTexts(two), docTexts(one)...) {
			if lies(s, x) && k != len(docTexts(two))+i {
				t.Errorf("%q lies in another result", s)
			}
		}
	}
	overrun(&one)
	if textOf(one) != want {
		t.Errorf("the lists of a doc share memory:\n%s", textOf(one))
	}
	for _, s := range one.Sides {
		for _, c := range s.Chunks {
			for k := range c {
				c[k].Ends[0] = -9
				c[k] = api.Para{}
			}
		}
		for k := range s.Notes {
			for i := range s.Notes[k].Text {
				s.Notes[k].Text[i] = api.Said{}
			}
			s.Notes[k] = api.Note{}
		}
		clear(s.Words)
	}
	clear(one.Labels)
	clear(one.Sides)
	spoil(l)
	clear(table)
	if textOf(two) != want {
		t.Errorf("a doc became\n%s", textOf(two))
	}
}

// R5: an empty list and none are the same.
func TestEmpty(t *testing.T) {
	for _, none := range [][]api.Node{nil, {}} {
		for _, noArgs := range [][][]api.Node{nil, {}} {
			bare := func(name string) api.Node { return api.Node{Command: true, Text: name, Args: noArgs, At: 7} }
			odd := api.Node{Text: "a", Args: noArgs, At: 8}
			for _, x := range []struct {
				l  []api.Node
				f  api.Fault
				to string
			}{
				{none, api.Fault{Code: 140}, ""},
				{list(bare("text")), api.Fault{Code: 143, At: 7}, ""},
				{list(bare("q")), api.Fault{Code: 142, At: 7}, ""},
				{list(odd), api.Fault{Code: 141, At: 8}, ""},
				{list(command("text", 7, none)), api.Fault{Code: 144, At: 7}, ""},
				{list(command("text", 1, list(command("chunk", 7, none)))), api.Fault{Code: 144, At: 7}, ""},
				{oneOf(none...), api.Fault{Code: 144, At: 102}, ""},
				{oneOf(command("ed", 7, none, none)), api.Fault{Code: 145, At: 7}, ""},
				{oneOf(odd, command("label", 7, none)), api.Fault{Code: 143, At: 7}, ""},
				{oneOf(odd, command("ed", 7, list(odd), none)), api.Fault{}, "side 0\n[0-2]\na a\n"},
				{oneOf(command("ed", 7, list(odd), list(command("A", 9, none)))), api.Fault{}, "side 0\n[0-1]\na\nnote 0 of 0..1 at 9:\n"},
				{oneOf(command("ed", 7, list(odd), list(command("A", 9, list(command("sig", 3, none)))))), api.Fault{}, "side 0\n[0-1]\na\nnote 0 of 0..1 at 9:\n"},
			} {
				for _, table := range [][]api.Siglum{nil, {}} {
					if d, f := Make(x.l, table); f != x.f || textOf(d) != x.to {
						t.Errorf("%v: %v, %q, not %v", x.l, f, textOf(d), x.f)
					}
				}
			}
		}
	}
}

// nested is a text of n lemmas in one another, the innermost one of the nodes.
func nested(n int, inside ...api.Node) []api.Node {
	l := inside
	for at := range n {
		l = list(command("ed", at, l, list(command("B", at, nil))))
	}
	return l
}

// P1, R1: lemmas in one another, as many as the document allows together with
// what they lie in, and far more.
func TestDeep(t *testing.T) {
	for _, n := range []int{1, 64, 65, 1000, 1<<16 - 5} {
		d, f := Make(oneOf(nested(n, word("a", 5))...), nil)
		if f != (api.Fault{}) || len(d.Sides[0].Notes) != n || len(d.Sides[0].Words) != 1 {
			t.Fatalf("%d lemmas: %v", n, f)
		}
		for at, x := range d.Sides[0].Notes {
			if x.At != at || x.From != 0 || x.To != 1 || x.Series != 1 {
				t.Fatalf("note %d of %d: %v", at, n, x)
			}
		}
		for code, inside := range map[api.Errno]api.Node{142: command("q", -3), 145: command("ed", -3, nil, nil), 143: command("label", -3)} {
			if d, f := Make(oneOf(nested(n, inside)...), nil); f != (api.Fault{Code: code, At: -3}) || textOf(d) != "" {
				t.Errorf("%d lemmas: %v, not %d", n, f, code)
			}
		}
	}
	if d, f := Make(oneOf(slices.Repeat(nested(1000, word("a", 5)), 100)...), nil); f != (api.Fault{}) || len(d.Sides[0].Notes) != 100000 || len(d.Sides[0].Words) != 100 {
		t.Errorf("1000 lemmas in one another, a hundred times: %v", f)
	}
	if d, f := Make(oneOf(nested(1<<21, word("a", 5))...), nil); f.Code != 145 || textOf(d) != "" {
		t.Errorf("2^21 lemmas: %v", f)
	}
}

// P1, R1: lists that hold themselves end.
func TestEndless(t *testing.T) {
	ends := func(what string, l []api.Node, f api.Fault) {
		t.Helper()
		if d, got := Make(l, witnesses()); got != f || textOf(d) != "" {
			t.Errorf("%s: %v, not %v", what, got, f)
		}
	}
	holding := func(inside ...api.Node) []api.Node {
		l := append(inside, command("ed", 5, nil, nil))
		l[len(l)-1].Args[0] = l
		return l
	}
	ends("a lemma in itself", oneOf(holding()...), api.Fault{Code: 145, At: 5})
	ends("a lemma behind a word in itself", oneOf(holding(word("a", 3))...), api.Fault{Code: 149, At: 3})
	ends("a lemma behind a label in itself", oneOf(holding(command("label", 2, list(word("a", 3))))...), api.Fault{Code: 147, At: 3})
	ends("a lemma behind a command in itself", oneOf(holding(command("q", 2))...), api.Fault{Code: 142, At: 2})
	for _, name := range []string{"text", "left", "chunk", "p", "verse", "l", "set", "label", "A", "sig", "ref", "q"} {
		l := list(command(name, 4, nil))
		l[0].Args[0] = l
		code := api.Errno(142)
		ends(name+" in itself", l, api.Fault{Code: code, At: 4})
		ends(name+" in itself in a chunk", list(command("text", 1, list(command("chunk", 2, l)))), api.Fault{Code: code, At: 4})
		ends(name+" in itself in a stanza", list(command("text", 1, list(command("chunk", 2, list(command("verse", 3, l)))))), api.Fault{Code: code, At: 4})
		ends(name+" in itself in a text", oneOf(l...), api.Fault{Code: code, At: 4})
		ends(name+" in itself in a lemma's notes", oneOf(command("ed", 1, list(word("a", 2)), l)), api.Fault{Code: code, At: 4})
		ends(name+" in itself in a note", oneOf(command("ed", 1, list(word("a", 2)), list(command("A", 3, l)))), api.Fault{Code: code, At: 4})
	}
	notes := list(command("ed", 1, list(word("a", 2)), nil))
	notes[0].Args[1] = notes
	ends("a lemma in its notes", oneOf(notes...), api.Fault{Code: 142, At: 1})
}

// P1, R1: lists that hold the next one twice have as many words as lists without
// end, but do not take as long.
func TestDoubled(t *testing.T) {
	for _, depth := range []int{13, 60, 1000} {
		for code, inside := range map[api.Errno]api.Node{149: word("a", 3), 145: command("ed", 3, nil, nil), 142: command("q", 3)} {
			l := list(inside)
			for range depth {
				ed := command("ed", 1, l, nil)
				l = list(ed, ed)
			}
			if d, f := Make(oneOf(l...), nil); f != (api.Fault{Code: code, At: 3}) || textOf(d) != "" {
				t.Errorf("%d lists: %v, not %d", depth, f, code)
			}
		}
	}
}

// P1, R1: long lists and long texts end in good time.
func TestLong(t *testing.T) {
	const many = 1 << 18
	fine := func(what string, l []api.Node) api.Doc {
		t.Helper()
		d, f := Make(l, witnesses())
		if f != (api.Fault{}) {
			t.Errorf("%s: %v", what, f)
		}
		return d
	}
	faulty := func(what string, l []api.Node, f api.Fault) {
		t.Helper()
		if d, got := Make(l, witnesses()); got != f || textOf(d) != "" {
			t.Errorf("%s: %v, not %v", what, got, f)
		}
	}
	inNote := func(l ...api.Node) []api.Node {
		return oneOf(command("ed", 1, list(word("a", 2)), list(command("end", 3, l))), command("label", 4, list(word("l", 5))))
	}
	w, side := word("w", 9), oneOf(word("a", 8))[0]
	para := side.Args[0][0].Args[0][0]
	faulty("words", oneOf(slices.Repeat(list(w), many)...), api.Fault{Code: 149, At: 9})
	faulty("words at the top", slices.Repeat(list(w), many), api.Fault{Code: 141, At: 9})
	faulty("sides", slices.Repeat(list(side), many), api.Fault{Code: 140})
	faulty("paragraphs", list(command("text", 1, list(command("chunk", 2, slices.Repeat(list(para), many))))), api.Fault{Code: 149, At: 8})
	faulty("chunks", list(command("text", 1, slices.Repeat(side.Args[0], many))), api.Fault{Code: 149, At: 8})
	faulty("numbers", list(command("text", 1, list(command("chunk", 2, slices.Repeat(list(command("set", 3, list(word("5", 4)))), many))))), api.Fault{Code: 144, At: 2})
	faulty("words in a number", list(command("text", 1, list(command("chunk", 2, list(command("set", 3, slices.Repeat(list(word("5", 4)), many))))))), api.Fault{Code: 143, At: 3})
	faulty("arguments", oneOf(command("ed", 3, make([][]api.Node, many)...)), api.Fault{Code: 143, At: 3})
	faulty("references", inNote(append(slices.Repeat(list(command("ref", 6, list(word("l", 7)))), many), command("ref", 6, list(word("m", 7))))...), api.Fault{Code: 151, At: 7})
	if d := fine("notes", oneOf(command("ed", 1, list(w), slices.Repeat(list(command("A", 3, list(w))), many)))); len(d.Sides[0].Notes) != many {
		t.Error("notes")
	}
	if d := fine("a note", inNote(slices.Repeat(list(w, command("sig", 1, list(word("C2", 3))), command("ref", 6, list(word("l", 7)))), many)...)); len(d.Sides[0].Notes[0].Text) != 3*many {
		t.Error("a note")
	}
	var labels []api.Node
	for i := range many {
		labels = append(labels, command("label", i, list(word(strconv.Itoa(i), i))))
	}
	if d := fine("labels", oneOf(append(labels, w)...)); len(d.Labels) != many {
		t.Error("labels")
	}
	faulty("labels and one twice", oneOf(append(labels, w, command("label", 2, list(word("0", 3))))...), api.Fault{Code: 147, At: 3})
	for _, s := range []string{strings.Repeat("9", many), strings.Repeat("x", many), strings.Repeat("\xff", many)} {
		faulty("a number", list(command("text", 1, list(command("chunk", 2, list(command("set", 3, list(word(s, 4)))))))), api.Fault{Code: 146, At: 4})
		faulty("a key", inNote(command("sig", 1, list(word(s, 4)))), api.Fault{Code: 148, At: 4})
		faulty("a name", inNote(command("ref", 1, list(word(s, 4)))), api.Fault{Code: 151, At: 4})
		faulty("a command", oneOf(command(s, 4)), api.Fault{Code: 142, At: 4})
		if d := fine("a word", oneOf(word(s, 4), command("label", 1, list(word(s, 4))))); d.Sides[0].Words[0] != s || d.Labels[0].Name != s {
			t.Error("a long word")
		}
	}
}

// A fault is wrapped in the contexts in which it was met, and found in them.
func TestWrapped(t *testing.T) {
	err := newMaker(nil).make(of(t, noted(`\q`)))
	var x failure
	if !errors.As(err, &x) || x.Fault != (api.Fault{Code: 142, At: 28}) {
		t.Errorf("%v", x)
	}
	if s := err.Error(); s != "source: side: chunk: text: notes: note: fault 142 at 28" {
		t.Error(s)
	}
}
