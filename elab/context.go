package elab

import (
	"strconv"

	"variorum/api"
)

// failure is a fault as an error: the innermost one of every chain.
type failure struct {
	api.Fault
}

func (x failure) Error() string {
	return "fault " + strconv.Itoa(int(x.Code)) + " at " + strconv.Itoa(x.At)
}

func fail(code api.Errno, at int) error {
	return failure{api.Fault{Code: code, At: at}}
}

// within is an error that was met in a context.
type within struct {
	context string
	inner   error
}

func (w within) Error() string { return w.context + ": " + w.inner.Error() }

// Unwrap lets errors.As pass through the contexts.
func (w within) Unwrap() error { return w.inner }

// rule is how many arguments a command must have, and what is done with it, which
// includes the visit of its arguments.
type rule struct {
	args int
	do   func(api.Node) error
}

// context is what a list may consist of: words, if there is something to be done
// with them, and commands.
type context struct {
	name     string
	word     func(api.Node) error
	commands map[string]rule
}

func (c context) visit(l []api.Node) error {
	for _, n := range l {
		if err := c.take(n); err != nil {
			return within{c.name, err}
		}
	}
	return nil
}

func (c context) take(n api.Node) error {
	if !n.Command {
		if c.word == nil {
			return fail(api.ErrElabWord, n.At)
		}
		return c.word(n)
	}
	r, ok := c.commands[n.Text]
	if !ok {
		return fail(api.ErrElabCommand, n.At)
	}
	if len(n.Args) != r.args {
		return fail(api.ErrElabArgs, n.At)
	}
	return r.do(n)
}

// contexts has one for each kind of list. A name and a number are both a single
// word.
type contexts struct {
	source, side, chunk, stanza, text, notes, note, keys, single context
}

// contextsOf binds the rules to a maker: they act on what it has made out so far.
func contextsOf(m *maker) contexts {
	side := rule{1, m.takeSide}
	series := map[string]rule{}
	for i, name := range seriesNames {
		series[name] = rule{1, func(n api.Node) error { return m.takeNote(i, n) }}
	}
	return contexts{
		source: context{"source", nil, map[string]rule{oneText: side, leftText: side, rightText: side}},
		side:   context{"side", nil, map[string]rule{"chunk": {1, m.takeChunk}}},
		chunk:  context{"chunk", nil, map[string]rule{"p": {1, m.takeProse}, "verse": {1, m.takeVerse}, "set": {1, m.takeSet}}},
		stanza: context{"stanza", nil, map[string]rule{"l": {1, m.takeLine}}},
		text:   context{"text", m.takeWord, map[string]rule{"ed": {2, m.takeLemma}, "label": {1, m.takeLabel}}},
		notes:  context{"notes", nil, series},
		note:   context{"note", m.sayWord, map[string]rule{"sig": {1, m.takeKeys}, "ref": {1, m.takeRef}}},
		keys:   context{"keys", m.sayKey, nil},
		single: context{"name", func(api.Node) error { return nil }, nil},
	}
}
