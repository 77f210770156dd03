package tree

import "variorum/api"

// place is where a list lies: two lists at one place are the same list.
type place struct {
	first *api.Node
	many  int
}

func placeOf(l []api.Node) place {
	if len(l) == 0 {
		return place{}
	}
	return place{&l[0], len(l)}
}

// Same keeps a list of the pairs that are left to compare, as lists can lie
// deeper in one another than calls can. A pair that was met before is not met
// again, so that it ends even for lists that hold themselves.
func Same(a, b []api.Node) bool {
	var left [][2][]api.Node
	met := map[[2]place]struct{}{}
	meet := func(a, b []api.Node) {
		pair := [2]place{placeOf(a), placeOf(b)}
		if _, ok := met[pair]; !ok {
			met[pair] = struct{}{}
			left = append(left, [2][]api.Node{a, b})
		}
	}
	meet(a, b)
	for len(left) > 0 {
		last := len(left) - 1
		pair := left[last]
		left = left[:last]
		if !alike(pair[0], pair[1], meet) {
			return false
		}
	}
	return true
}

// alike compares the lists' own nodes, and has their arguments meet.
func alike(a, b []api.Node, meet func(a, b []api.Node)) bool {
	if len(a) != len(b) {
		return false
	}
	for i := range a {
		if a[i].Command != b[i].Command || a[i].Text != b[i].Text || len(a[i].Args) != len(b[i].Args) {
			return false
		}
		for k := range a[i].Args {
			meet(a[i].Args[k], b[i].Args[k])
		}
	}
	return true
}
