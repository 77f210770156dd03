package elab

import (
	"strconv"
	"strings"

	"variorum/api"
	"variorum/sigla"
)

// The commands that hold a side.
const (
	oneText   = "text"
	leftText  = "left"
	rightText = "right"
)

const (
	mostSet = 9999 // of the numbers that can be set

	// No more is promised than so many levels of nesting. A list that holds
	// itself would have no last one.
	mostLevels = 1 << 16
)

// maker makes out a source. Beside the doc, it has what is not yet entered there.
type maker struct {
	in     contexts
	table  []api.Siglum
	doc    api.Doc
	labels map[string]struct{} // the names of the doc's labels
	side   api.Side
	chunk  []api.Para
	ends   []int // of the paragraph's lines
	set    int   // of the next paragraph
	levels int   // how many lemmas are open
	lemma  api.Note
	said   []api.Said
}

func newMaker(t []api.Siglum) *maker {
	m := &maker{table: t, labels: map[string]struct{}{}}
	m.in = contextsOf(m)
	return m
}

func (m *maker) make(l []api.Node) error {
	if err := m.in.source.visit(l); err != nil {
		return err
	}
	return m.finish(l)
}

// finish checks what hangs on the whole source, whose nodes are all sides by then.
func (m *maker) finish(l []api.Node) error {
	switch {
	case len(l) == 2 && l[0].Text == leftText && l[1].Text == rightText:
		if len(m.doc.Sides[0].Chunks) != len(m.doc.Sides[1].Chunks) {
			return fail(api.ErrElabChunks, l[1].At)
		}
		fallthrough
	case len(l) == 1 && l[0].Text == oneText:
		return m.checkRefs()
	}
	return fail(api.ErrElabTop, 0)
}

func (m *maker) checkRefs() error {
	for _, s := range m.doc.Sides {
		for _, n := range s.Notes {
			if err := m.checkRefsOf(n); err != nil {
				return err
			}
		}
	}
	return nil
}

func (m *maker) checkRefsOf(n api.Note) error {
	for _, x := range n.Text {
		if _, ok := m.labels[x.Text]; x.Kind == api.SaidRef && !ok {
			return fail(api.ErrElabRef, x.At)
		}
	}
	return nil
}

func (m *maker) takeSide(n api.Node) error {
	m.side = api.Side{}
	if err := m.in.side.visit(n.Args[0]); err != nil {
		return err
	}
	if len(m.side.Chunks) == 0 {
		return fail(api.ErrElabEmpty, n.At)
	}
	m.doc.Sides = append(m.doc.Sides, m.side)
	return nil
}

func (m *maker) takeChunk(n api.Node) error {
	m.chunk, m.set = nil, 0
	if err := m.in.chunk.visit(n.Args[0]); err != nil {
		return err
	}
	if len(m.chunk) == 0 {
		return fail(api.ErrElabEmpty, n.At)
	}
	m.side.Chunks = append(m.side.Chunks, m.chunk)
	return nil
}

// takeSet looks at the word last: one that is no number is a fault only where it
// is the only one.
func (m *maker) takeSet(n api.Node) error {
	word, err := m.single(n)
	if err != nil {
		return err
	}
	set, err := strconv.Atoi(word.Text)
	if err != nil || set < 1 || set > mostSet || strconv.Itoa(set) != word.Text {
		return fail(api.ErrElabNumber, word.At)
	}
	m.set = set
	return nil
}

// takeProse takes a paragraph as a stanza of one line.
func (m *maker) takeProse(n api.Node) error {
	from := m.words()
	m.ends = nil
	if err := m.takeLine(n); err != nil {
		return err
	}
	m.addPara(api.Para{From: from})
	return nil
}

func (m *maker) takeVerse(n api.Node) error {
	from := m.words()
	m.ends = nil
	if err := m.in.stanza.visit(n.Args[0]); err != nil {
		return err
	}
	if len(m.ends) == 0 {
		return fail(api.ErrElabEmpty, n.At)
	}
	m.addPara(api.Para{Verse: true, From: from})
	return nil
}

func (m *maker) addPara(p api.Para) {
	p.Ends, p.Set = m.ends, m.set
	m.set = 0
	m.chunk = append(m.chunk, p)
}

func (m *maker) takeLine(n api.Node) error {
	from := m.words()
	if err := m.in.text.visit(n.Args[0]); err != nil {
		return err
	}
	if m.words() == from {
		return fail(api.ErrElabEmpty, n.At)
	}
	m.ends = append(m.ends, m.words())
	return nil
}

// words is how many words the side has so far.
func (m *maker) words() int { return len(m.side.Words) }

func (m *maker) takeWord(n api.Node) error {
	if m.words() == api.MaxWords {
		return fail(api.ErrElabMany, n.At)
	}
	m.side.Words = append(m.side.Words, strings.Clone(n.Text))
	return nil
}

// takeLemma notes the lemma only behind its text, which can hold other lemmas.
func (m *maker) takeLemma(n api.Node) error {
	from := m.words()
	if err := m.visitLemma(n.Args[0]); err != nil {
		return err
	}
	if m.words() == from {
		return fail(api.ErrElabLemma, n.At)
	}
	m.lemma = api.Note{From: from, To: m.words()}
	return m.in.notes.visit(n.Args[1])
}

// visitLemma passes over what lies too deep, as if it had no words.
func (m *maker) visitLemma(l []api.Node) error {
	if m.levels == mostLevels {
		return nil
	}
	m.levels++
	err := m.in.text.visit(l)
	m.levels--
	return err
}

func (m *maker) takeLabel(n api.Node) error {
	word, err := m.single(n)
	if err != nil {
		return err
	}
	if _, ok := m.labels[word.Text]; ok {
		return fail(api.ErrElabTwice, word.At)
	}
	m.labels[word.Text] = struct{}{}
	m.doc.Labels = append(m.doc.Labels, api.Label{Name: strings.Clone(word.Text), Side: len(m.doc.Sides), Word: m.words()})
	return nil
}

func (m *maker) takeNote(series int, n api.Node) error {
	m.said = nil
	if err := m.in.note.visit(n.Args[0]); err != nil {
		return err
	}
	note := m.lemma
	note.Series, note.Text, note.At = series, m.said, n.At
	m.side.Notes = append(m.side.Notes, note)
	return nil
}

func (m *maker) takeKeys(n api.Node) error {
	return m.in.keys.visit(n.Args[0])
}

func (m *maker) takeRef(n api.Node) error {
	word, err := m.single(n)
	if err != nil {
		return err
	}
	m.say(api.SaidRef, word)
	return nil
}

func (m *maker) sayWord(n api.Node) error {
	m.say(api.SaidWord, n)
	return nil
}

func (m *maker) sayKey(n api.Node) error {
	if sigla.Find(m.table, n.Text) < 0 {
		return fail(api.ErrElabKey, n.At)
	}
	m.say(api.SaidKey, n)
	return nil
}

func (m *maker) say(kind int, n api.Node) {
	m.said = append(m.said, api.Said{Kind: kind, Text: strings.Clone(n.Text), At: n.At})
}

// single is the word that a command's argument must be. What passes the visit has
// words alone.
func (m *maker) single(n api.Node) (api.Node, error) {
	l := n.Args[0]
	if err := m.in.single.visit(l); err != nil {
		return api.Node{}, err
	}
	if len(l) != 1 {
		return api.Node{}, fail(api.ErrElabArgs, n.At)
	}
	return l[0], nil
}
