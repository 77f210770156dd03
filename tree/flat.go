package tree

import "variorum/api"

// deepest is at how many arguments in one another lists are cut off.
const deepest = 100

func Flat(l []api.Node) []api.Token {
	var tokens []api.Token
	walk(l, 0, func(t api.Token) { tokens = append(tokens, t) })
	return tokens
}

func Words(l []api.Node) []string {
	var words []string
	walk(l, 0, func(t api.Token) {
		if t.Kind == api.TokWord {
			words = append(words, t.Text)
		}
	})
	return words
}

// walk visits the tokens of the nodes, which lie inside depth arguments.
func walk(l []api.Node, depth int, visit func(api.Token)) {
	for _, n := range l {
		if !n.Command {
			visit(api.Token{Kind: api.TokWord, Text: n.Text, At: n.At})
			continue
		}
		visit(api.Token{Kind: api.TokCommand, Text: n.Text, At: n.At})
		if depth == deepest {
			continue
		}
		for _, arg := range n.Args {
			visit(api.Token{Kind: api.TokOpen, At: n.At})
			walk(arg, depth+1, visit)
			visit(api.Token{Kind: api.TokClose, At: n.At})
		}
	}
}
