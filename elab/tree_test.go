package elab

import (
	"slices"

	"variorum/api"
)

// Sources as nodes, where no text yields them or their positions matter.

func word(text string, at int) api.Node {
	return api.Node{Text: text, At: at}
}

func command(name string, at int, args ...[]api.Node) api.Node {
	return api.Node{Command: true, Text: name, Args: args, At: at}
}

func list(l ...api.Node) []api.Node { return l }

// oneOf is a source whose only paragraph has the nodes.
func oneOf(l ...api.Node) []api.Node {
	return list(command("text", 100, list(command("chunk", 101, list(command("p", 102, l))))))
}

// copied shares nothing with the list.
func copied(l []api.Node) []api.Node {
	var c []api.Node
	for _, n := range l {
		var args [][]api.Node
		for _, arg := range n.Args {
			args = append(args, copied(arg))
		}
		n.Args = args
		c = append(c, n)
	}
	return c
}

// numbered gives each node a position of its own, from at on, and answers the
// position behind the last one.
func numbered(l []api.Node, at int) int {
	for i := range l {
		l[i].At = at
		at += 3
		for _, arg := range l[i].Args {
			at = numbered(arg, at)
		}
	}
	return at
}

// vocabulary are the commands, one that there is not, and words that matter.
var vocabulary = list(
	command("text", 0, nil), command("left", 0, nil), command("right", 0, nil), command("chunk", 0, nil),
	command("p", 0, nil), command("verse", 0, nil), command("l", 0, nil), command("set", 0, list(word("3", 0))),
	command("ed", 0, list(word("a", 0)), nil), command("ed", 0, nil, nil), command("label", 0, list(word("m", 0))),
	command("B", 0, nil), command("fC", 0, list(word("x", 0))), command("end", 0, nil),
	command("sig", 0, list(word("B", 0))), command("ref", 0, list(word("m", 0))), command("q", 0),
	word("a", 0), word("A", 0), word("0", 0), word("n", 0),
)

// edited are all lists that one edit makes of the list: a node left out, doubled,
// exchanged with the next one, put in, renamed or replaced by another one; an
// argument left out, doubled or put in; and the same inside the arguments. They
// share nodes.
func edited(l []api.Node) [][]api.Node {
	var all [][]api.Node
	for i := range len(l) + 1 {
		for _, n := range vocabulary {
			all = append(all, slices.Concat(l[:i], list(n), l[i:]))
			if i < len(l) {
				all = append(all, slices.Concat(l[:i], list(n), l[i+1:]))
			}
		}
	}
	for i, n := range l {
		all = append(all, slices.Concat(l[:i], l[i+1:]), slices.Concat(l[:i], list(n), l[i:]))
		if i > 0 {
			all = append(all, slices.Concat(l[:i-1], list(n, l[i-1]), l[i+1:]))
		}
		for _, m := range editedNode(n) {
			all = append(all, slices.Concat(l[:i], list(m), l[i+1:]))
		}
	}
	return all
}

func editedNode(n api.Node) []api.Node {
	var all []api.Node
	with := func(args ...[]api.Node) {
		all = append(all, api.Node{Command: n.Command, Text: n.Text, Args: args})
	}
	for _, m := range vocabulary {
		if m.Command == n.Command && m.Text != n.Text {
			all = append(all, api.Node{Command: n.Command, Text: m.Text, Args: n.Args})
		}
	}
	with(append(slices.Clone(n.Args), nil)...)
	with()
	for i, arg := range n.Args {
		with(slices.Concat(n.Args[:i], n.Args[i+1:])...)
		with(slices.Concat(n.Args[:i], [][]api.Node{nil}, n.Args[i+1:])...)
		with(slices.Concat(n.Args[:i], [][]api.Node{arg}, n.Args[i:])...)
		for _, x := range edited(arg) {
			with(slices.Concat(n.Args[:i], [][]api.Node{x}, n.Args[i+1:])...)
		}
	}
	return all
}
