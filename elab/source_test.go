package elab

import (
	"strconv"
	"strings"
	"testing"

	"variorum/api"
	"variorum/lexer"
	"variorum/sigla"
	"variorum/tree"
)

// of are the nodes of a source.
func of(t *testing.T, source string) []api.Node {
	t.Helper()
	tokens, f := lexer.Lex(source)
	if f != (api.Fault{}) {
		t.Fatalf("%q: %v", source, f)
	}
	nodes, f := tree.Parse(tokens)
	if f != (api.Fault{}) {
		t.Fatalf("%q: %v", source, f)
	}
	return nodes
}

// witnesses is the table that all sources use.
func witnesses() []api.Siglum {
	return []api.Siglum{{Key: "A", Name: "Codex A"}, {Key: "B", Name: "Codex B"}, {Key: "C2", Name: "Codex C2"}}
}

// prose is a source of one paragraph, verse one of one stanza, noted one whose
// only note is of series A.
func prose(s string) string { return `\text{\chunk{\p{` + s + `}}}` }
func verse(s string) string { return `\text{\chunk{\verse{` + s + `}}}` }
func noted(s string) string { return prose(`a \ed{b}{\A{` + s + `}} c`) }

// words are n words, each with a blank behind it.
func words(n int) string { return strings.Repeat("w ", n) }

// kinds are those of what is said.
var kinds = map[int]string{0: "", 1: "=", 2: "->"}

// textOf tells all that a doc has: of each side its chunks in brackets, its words
// and its notes, then the labels. It does not tell nil from empty.
func textOf(d api.Doc) string {
	var s strings.Builder
	for i, side := range d.Sides {
		s.WriteString("side " + strconv.Itoa(i) + "\n")
		for _, chunk := range side.Chunks {
			s.WriteString("[")
			for k, p := range chunk {
				if k > 0 {
					s.WriteString(" ")
				}
				s.WriteString(paraOf(p))
			}
			s.WriteString("]\n")
		}
		s.WriteString(strings.Join(side.Words, " ") + "\n")
		for _, n := range side.Notes {
			s.WriteString("note " + strconv.Itoa(n.Series) + " of " + strconv.Itoa(n.From) + ".." + strconv.Itoa(n.To) + " at " + strconv.Itoa(n.At) + ":")
			for _, x := range n.Text {
				s.WriteString(" " + kinds[x.Kind] + x.Text + "@" + strconv.Itoa(x.At))
			}
			s.WriteString("\n")
		}
	}
	for _, l := range d.Labels {
		s.WriteString("label " + l.Name + " of " + strconv.Itoa(l.Side) + " at " + strconv.Itoa(l.Word) + "\n")
	}
	return s.String()
}

// paraOf tells a paragraph as its first word, the ends of its lines behind a dash,
// or, of a stanza, a slash, and what is set behind a sign of equality.
func paraOf(p api.Para) string {
	sign := "-"
	if p.Verse {
		sign = "/"
	}
	s := strconv.Itoa(p.From)
	for _, end := range p.Ends {
		s += sign + strconv.Itoa(end)
	}
	if p.Set != 0 {
		s += "=" + strconv.Itoa(p.Set)
	}
	return s
}

// makes holds that a source yields the doc of this text.
func makes(t *testing.T, source, want string) {
	t.Helper()
	d, f := Make(of(t, source), witnesses())
	if f != (api.Fault{}) {
		t.Errorf("%.200q: %v", source, f)
	}
	if s := textOf(d); s != want {
		t.Errorf("%.200q:\n%s\nnot\n%s", source, s, want)
	}
	holds(t, d)
	pointsBack(t, source, d)
}

// refuses holds that a source yields a fault at the place that has a ^ in it, or
// at 0 if there is none, and nothing else.
func refuses(t *testing.T, code api.Errno, source string) {
	t.Helper()
	at := max(strings.Index(source, "^"), 0)
	source = strings.Replace(source, "^", "", 1)
	d, f := Make(of(t, source), witnesses())
	if f != (api.Fault{Code: code, At: at}) || textOf(d) != "" || d.Sides != nil || d.Labels != nil {
		t.Errorf("%.200q: %v, not %d at %d", source, f, code, at)
	}
}

// holds is P14.3, and what else is true of every doc.
func holds(t *testing.T, d api.Doc) {
	t.Helper()
	if n := len(d.Sides); n < 1 || n > 2 || len(d.Sides[0].Chunks) != len(d.Sides[n-1].Chunks) {
		t.Errorf("sides and chunks of\n%s", textOf(d))
	}
	for _, s := range d.Sides {
		from := 0
		inPara := map[int]int{} // which paragraph a word is in
		for c, chunk := range s.Chunks {
			if len(chunk) == 0 {
				t.Errorf("chunk %d has no paragraph", c)
			}
			for k, p := range chunk {
				if p.From != from || len(p.Ends) == 0 || !p.Verse && len(p.Ends) > 1 || p.Set < 0 || p.Set > 9999 {
					t.Errorf("the paragraph %v does not follow on %d", p, from)
				}
				for _, end := range p.Ends {
					if end <= from {
						t.Errorf("no word in the line from %d to %d", from, end)
					}
					for ; from < end; from++ {
						inPara[from] = c*len(s.Words) + k
					}
				}
			}
		}
		if from != len(s.Words) || from > api.MaxWords {
			t.Errorf("%d of %d words are in paragraphs", from, len(s.Words))
		}
		for _, n := range s.Notes {
			if n.From < 0 || n.To <= n.From || n.To > len(s.Words) || inPara[n.From] != inPara[n.To-1] || n.Series < 0 || n.Series >= api.Series {
				t.Errorf("the note %v", n)
			}
			if strings.Join(Lemma(s, n), " ") != strings.Join(s.Words[n.From:n.To], " ") {
				t.Errorf("the lemma %q of %v", Lemma(s, n), n)
			}
		}
	}
}

// pointsBack holds that what has a position stands there in the source.
func pointsBack(t *testing.T, source string, d api.Doc) {
	t.Helper()
	stands := func(at int, s string) {
		if at < 0 || at > len(source) || !strings.HasPrefix(source[at:], s) {
			t.Errorf("%q does not stand at %d of %.200q", s, at, source)
		}
	}
	for _, s := range d.Sides {
		last := -1
		for _, n := range s.Notes {
			stands(n.At, `\`+names[n.Series]+`{`)
			if n.At <= last {
				t.Errorf("the note at %d stands behind that at %d", n.At, last)
			}
			last = n.At
			for _, x := range n.Text {
				stands(x.At, lexer.Escape(x.Text))
			}
		}
	}
}

// names are those of the note commands, by their series, as the chapter's
// promise tells them.
var names = map[int]string{0: "A", 1: "B", 2: "C", 3: "D", 4: "E", 5: "fA", 6: "fB", 7: "fC", 8: "fD", 9: "fE", 10: "end"}

// The errors, limits and kinds have the document's numbers.
func TestNumbers(t *testing.T) {
	for i, n := range []api.Errno{api.ErrElabTop, api.ErrElabWord, api.ErrElabCommand, api.ErrElabArgs, api.ErrElabEmpty, api.ErrElabLemma, api.ErrElabNumber, api.ErrElabTwice, api.ErrElabKey, api.ErrElabMany, api.ErrElabChunks, api.ErrElabRef} {
		if int(n) != 140+i {
			t.Errorf("the error %d is not %d", n, 140+i)
		}
	}
	if api.OK != 0 || api.MaxWords != 5000 || api.Series != 11 || api.SaidWord != 0 || api.SaidKey != 1 || api.SaidRef != 2 {
		t.Error("a limit or a kind is another than the document's")
	}
	if !sigla.May(witnesses()) {
		t.Error("the witnesses are not valid")
	}
}
