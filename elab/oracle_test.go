package elab

import (
	"math/rand"
	"slices"
	"strconv"
	"strings"
	"testing"

	"variorum/api"
)

// The chapter's words taken another way: a source is first written out as what
// is to be checked, one behind the other; a source without a fault is then
// gathered from its lists.

// grammar has, for each context, the commands that it allows, and behind each the
// contexts of its arguments; a - stands where words are allowed.
var grammar = map[string]string{
	"source": "text:side left:side right:side",
	"side":   "chunk:chunk",
	"chunk":  "p:text verse:stanza set:number",
	"stanza": "l:text",
	"text":   "- ed:text,notes label:label",
	"notes":  "A:note B:note C:note D:note E:note fA:note fB:note fC:note fD:note fE:note end:note",
	"note":   "- sig:keys ref:ref",
	"keys":   "-",
	"number": "-",
	"label":  "-",
	"ref":    "-",
}

// allowed answers the contexts of a command's arguments.
func allowed(context, name string) ([]string, bool) {
	for x := range strings.FieldsSeq(grammar[context]) {
		if head, tail, _ := strings.Cut(x, ":"); head == name && tail != "" {
			return strings.Split(tail, ","), true
		}
	}
	return nil, false
}

// check is a node in its context, or the end of a list in its context, with the
// command that it belongs to.
type check struct {
	context string
	node    api.Node
	end     bool
	list    []api.Node
}

// checksOf are those of a list. Behind a node that is at fault, nothing matters.
func checksOf(context string, owner api.Node, l []api.Node) []check {
	var all []check
	for _, n := range l {
		all = append(all, check{context: context, node: n})
		if args, ok := allowed(context, n.Text); ok && n.Command && len(args) == len(n.Args) {
			for i, arg := range n.Args {
				all = append(all, checksOf(args[i], n, arg)...)
			}
		}
	}
	return append(all, check{context, owner, true, l})
}

func has(l []api.Node, names ...string) bool {
	return slices.ContainsFunc(l, func(n api.Node) bool { return slices.Contains(names, n.Text) })
}

// judge goes through the checks; of the references it answers those that it met.
type judge struct {
	table  []api.Siglum
	words  int
	labels []string
	refs   []api.Node
}

func (j *judge) node(c check) api.Errno {
	n := c.node
	if !n.Command {
		if !strings.HasPrefix(grammar[c.context], "-") {
			return 141
		}
		if c.context == "text" {
			j.words++
			if j.words > 5000 {
				return 149
			}
		}
		if c.context == "keys" && !slices.ContainsFunc(j.table, func(x api.Siglum) bool { return x.Key == n.Text }) {
			return 148
		}
		return 0
	}
	if c.context == "source" {
		j.words = 0
	}
	args, ok := allowed(c.context, n.Text)
	if !ok {
		return 142
	}
	if len(args) != len(n.Args) {
		return 143
	}
	return 0
}

func (j *judge) end(c check) (api.Errno, int) {
	switch c.context {
	case "source":
		if form := namesOf(c.list); form != "text" && form != "left right" {
			return 140, 0
		}
	case "side":
		if len(c.list) == 0 {
			return 144, c.node.At
		}
	case "chunk":
		if !has(c.list, "p", "verse") {
			return 144, c.node.At
		}
	case "stanza":
		if len(c.list) == 0 {
			return 144, c.node.At
		}
	case "text":
		if len(textWords(c.list)) == 0 && c.node.Text == "ed" {
			return 145, c.node.At
		}
		if len(textWords(c.list)) == 0 {
			return 144, c.node.At
		}
	case "number", "label", "ref":
		if len(c.list) != 1 {
			return 143, c.node.At
		}
		return j.name(c.context, c.list[0])
	}
	return 0, 0
}

func (j *judge) name(context string, n api.Node) (api.Errno, int) {
	switch context {
	case "number":
		if !slices.Contains(numbers, n.Text) {
			return 146, n.At
		}
	case "label":
		if slices.Contains(j.labels, n.Text) {
			return 147, n.At
		}
		j.labels = append(j.labels, n.Text)
	case "ref":
		j.refs = append(j.refs, n)
	}
	return 0, 0
}

// numbers are those that can be set.
var numbers = func() []string {
	var all []string
	for i := range 9999 {
		all = append(all, strconv.Itoa(i+1))
	}
	return all
}()

func namesOf(l []api.Node) string {
	var names []string
	for _, n := range l {
		names = append(names, n.Text)
	}
	return strings.Join(names, " ")
}

// faultOf is the first fault of a source.
func faultOf(l []api.Node, table []api.Siglum) api.Fault {
	j := judge{table: table}
	for _, c := range checksOf("source", api.Node{}, l) {
		code, at := api.Errno(0), c.node.At
		if c.end {
			code, at = j.end(c)
		} else {
			code = j.node(c)
		}
		if code != 0 {
			return api.Fault{Code: code, At: at}
		}
	}
	if len(l) == 2 && len(l[0].Args[0]) != len(l[1].Args[0]) {
		return api.Fault{Code: 150, At: l[1].At}
	}
	for _, n := range j.refs {
		if !slices.Contains(j.labels, n.Text) {
			return api.Fault{Code: 151, At: n.At}
		}
	}
	return api.Fault{}
}

// textWords are the words of a text.
func textWords(l []api.Node) []string {
	var words []string
	for _, n := range l {
		if !n.Command {
			words = append(words, n.Text)
		}
		if n.Command && n.Text == "ed" {
			words = append(words, textWords(n.Args[0])...)
		}
	}
	return words
}

// gathered is the doc of a source that has no fault.
func gathered(l []api.Node) api.Doc {
	var d api.Doc
	for i, top := range l {
		var s api.Side
		for _, c := range top.Args[0] {
			var chunk []api.Para
			set := 0
			for _, n := range c.Args[0] {
				if n.Text == "set" {
					set, _ = strconv.Atoi(n.Args[0][0].Text)
					continue
				}
				p := api.Para{Verse: n.Text == "verse", From: len(s.Words), Set: set}
				texts := [][]api.Node{n.Args[0]}
				if p.Verse {
					texts = nil
					for _, line := range n.Args[0] {
						texts = append(texts, line.Args[0])
					}
				}
				for _, text := range texts {
					notes, labels := inText(text, i, len(s.Words))
					s.Notes, d.Labels = append(s.Notes, notes...), append(d.Labels, labels...)
					s.Words = append(s.Words, textWords(text)...)
					p.Ends = append(p.Ends, len(s.Words))
				}
				chunk, set = append(chunk, p), 0
			}
			s.Chunks = append(s.Chunks, chunk)
		}
		d.Sides = append(d.Sides, s)
	}
	return d
}

// inText are the notes and labels of a text that begins with the word at.
func inText(l []api.Node, side, at int) ([]api.Note, []api.Label) {
	var notes []api.Note
	var labels []api.Label
	for i, n := range l {
		here := at + len(textWords(l[:i]))
		switch {
		case n.Command && n.Text == "label":
			labels = append(labels, api.Label{Name: n.Args[0][0].Text, Side: side, Word: here})
		case n.Command:
			inner, more := inText(n.Args[0], side, here)
			notes, labels = append(notes, inner...), append(labels, more...)
			for _, x := range n.Args[1] {
				notes = append(notes, api.Note{
					Series: slices.Index(strings.Fields("A B C D E fA fB fC fD fE end"), x.Text),
					From:   here, To: here + len(textWords(n.Args[0])), Text: saidIn(x.Args[0]), At: x.At,
				})
			}
		}
	}
	return notes, labels
}

func saidIn(l []api.Node) []api.Said {
	var said []api.Said
	add := func(kind int, n api.Node) { said = append(said, api.Said{Kind: kind, Text: n.Text, At: n.At}) }
	for _, n := range l {
		switch {
		case !n.Command:
			add(0, n)
		case n.Text == "ref":
			add(2, n.Args[0][0])
		default:
			for _, key := range n.Args[0] {
				add(1, key)
			}
		}
	}
	return said
}

// agrees holds that Make answers as the chapter's words do, and tells the fault.
func agrees(t *testing.T, l []api.Node) api.Errno {
	t.Helper()
	want := faultOf(l, witnesses())
	d, f := Make(l, witnesses())
	if f != want {
		t.Errorf("%v: %v, not %v", l, f, want)
		return f.Code
	}
	if f != (api.Fault{}) {
		if d.Sides != nil || d.Labels != nil {
			t.Errorf("%v: a doc beside %v", l, f)
		}
		return f.Code
	}
	if got, want := textOf(d), textOf(gathered(l)); got != want {
		t.Errorf("%v:\n%s\nnot\n%s", l, got, want)
	}
	holds(t, d)
	return 0
}

// bases are small sources that, taken together, have every command.
var bases = []string{
	prose("a"),
	verse(`\l{a}`),
	`\text{\chunk{\set{2}\p{a}\verse{\l{b}\l{c}}}}`,
	`\text{\chunk{\p{\ed{a}{\A{x}}}}}`,
	`\text{\chunk{\p{a\label{n}\ed{b}{\E{\ref{n}\sig{A}}}}}}`,
	`\text{\chunk{\p{\ed{a \ed{b}{\end{x}}}{\fB{\sig{A B}}}}}}`,
	`\left{\chunk{\p{a}}}\right{\chunk{\p{\label{n}b}}}`,
	`\left{\chunk{\p{\ed{a}{\C{\ref{m}}}}}\chunk{\set{4}\p{b}}}\right{\chunk{\verse{\l{c}}}\chunk{\p{\label{m}d}}}`,
}

// P14.1, P14.3: every source that one edit makes of these.
func TestEdits(t *testing.T) {
	met := map[api.Errno]int{}
	for _, s := range bases {
		l := of(t, s)
		for _, x := range edited(l) {
			x = copied(x)
			numbered(x, 1)
			met[agrees(t, x)]++
		}
		if code := agrees(t, l); code != 0 {
			t.Errorf("%s: %d", s, code)
		}
	}
	for code := api.Errno(140); code <= 151; code++ {
		if met[code] == 0 && code != 149 {
			t.Errorf("no edit is the fault %d", code)
		}
	}
	if met[0] < 500 {
		t.Errorf("%d edits have no fault", met[0])
	}
}

// P14.1, P14.3: sources that two edits make, where two faults meet.
func TestPairsOfEdits(t *testing.T) {
	r := rand.New(rand.NewSource(14))
	met := map[api.Errno]int{}
	for _, s := range bases {
		once := edited(of(t, s))
		for range 100 {
			twice := edited(once[r.Intn(len(once))])
			for range 50 {
				x := copied(twice[r.Intn(len(twice))])
				numbered(x, r.Intn(5))
				met[agrees(t, x)]++
			}
		}
	}
	for code := api.Errno(140); code <= 151; code++ {
		if met[code] == 0 && code != 149 {
			t.Errorf("no pair of edits is the fault %d", code)
		}
	}
}

// writer writes sources that have no fault.
type writer struct {
	*rand.Rand
	labels int
}

func (w *writer) times(n int, write func() api.Node) []api.Node {
	var l []api.Node
	for range n {
		l = append(l, write())
	}
	return l
}

func (w *writer) word() api.Node {
	return word(strings.Fields("a b c A B p 1 text")[w.Intn(8)], 0)
}

func (w *writer) text(deep int) []api.Node {
	l := list(w.word())
	for range w.Intn(6) {
		n := w.word()
		switch w.Intn(4) {
		case 0:
			if deep > 0 {
				n = command("ed", 0, w.text(deep-1), w.times(w.Intn(4), w.note))
			}
		case 1:
			n = command("label", 0, list(word("l"+strconv.Itoa(w.labels), 0)))
			w.labels++
		}
		l = slices.Insert(l, w.Intn(len(l)+1), n)
	}
	return l
}

func (w *writer) note() api.Node {
	return command(names[w.Intn(11)], 0, w.times(w.Intn(4), func() api.Node {
		switch w.Intn(4) {
		case 0:
			return command("sig", 0, w.times(w.Intn(3), func() api.Node { return word([]string{"A", "B", "C2"}[w.Intn(3)], 0) }))
		case 1:
			return command("ref", 0, list(word("l"+strconv.Itoa(w.Intn(4)), 0)))
		}
		return w.word()
	}))
}

func (w *writer) chunk() api.Node {
	var l []api.Node
	for range 1 + w.Intn(3) {
		for range w.Intn(3) {
			l = append(l, command("set", 0, list(word(strconv.Itoa(1+w.Intn(9999)), 0))))
		}
		if w.Intn(2) == 0 {
			l = append(l, command("p", 0, w.text(3)))
			continue
		}
		l = append(l, command("verse", 0, w.times(1+w.Intn(3), func() api.Node { return command("l", 0, w.text(2)) })))
	}
	return command("chunk", 0, l)
}

func (w *writer) source() []api.Node {
	many := 1 + w.Intn(3)
	if w.Intn(2) == 0 {
		return list(command("text", 0, w.times(many, w.chunk)))
	}
	return list(command("left", 0, w.times(many, w.chunk)), command("right", 0, w.times(many, w.chunk)))
}

// P14.1, P14.3: greater sources; their references may be to labels that they do
// not have.
func TestWritten(t *testing.T) {
	met := map[api.Errno]int{}
	for seed := range int64(4000) {
		w := writer{Rand: rand.New(rand.NewSource(seed))}
		l := w.source()
		numbered(l, w.Intn(9))
		met[agrees(t, l)]++
	}
	if len(met) != 2 || met[0] < 1000 || met[151] < 100 {
		t.Errorf("the faults %v", met)
	}
}
