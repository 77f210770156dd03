package tree

import "variorum/api"

func Depth(l []api.Node) int {
	reached := 0
	levels(l, func(n api.Node, depth int) bool {
		if len(n.Args) > 0 {
			reached = depth + 1
		}
		return reached <= deepest
	})
	return reached
}

func May(l []api.Node) bool {
	ok := true
	levels(l, func(n api.Node, depth int) bool {
		ok = len(n.Args) == 0 || n.Command && depth < api.MaxDepth
		return ok
	})
	return ok
}

// levels visits the nodes, those inside fewer arguments first, until a visit
// answers false.
func levels(l []api.Node, visit func(n api.Node, depth int) bool) {
	level := [][]api.Node{l}
	for depth := 0; len(level) > 0; depth++ {
		for _, nodes := range level {
			for _, n := range nodes {
				if !visit(n, depth) {
					return
				}
			}
		}
		level = arguments(level)
	}
}

// arguments are those of all nodes of a level, each list once: where nodes share
// their arguments, there could be twice as many on each level as on the one
// before.
func arguments(level [][]api.Node) [][]api.Node {
	var args [][]api.Node
	met := map[place]struct{}{}
	for _, nodes := range level {
		for _, n := range nodes {
			for _, arg := range n.Args {
				p := placeOf(arg)
				if _, ok := met[p]; !ok {
					met[p] = struct{}{}
					args = append(args, arg)
				}
			}
		}
	}
	return args
}
