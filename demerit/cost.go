package demerit

import (
	"variorum/api"
)

// lineDemerits is added to each badness, so that fewer lines are better ones.
const lineDemerits = 10

// The classes of lines, by how tight they are.
const (
	veryLoose = iota
	loose
	decent
	tight
)

// Up to which badness a line is decent, and from which on a loose one is very
// loose.
const (
	decentBadness    = 12
	veryLooseBadness = 100
)

func Cost(l []api.Item, a, b int, width int64, tolerance int) (int64, int, bool) {
	set, ok := Line(l, a, b, width)
	if !ok || set.Badness > min(tolerance, api.Infinite) {
		return 0, 0, false
	}
	demerits := square(set.Badness+lineDemerits) + breakDemerits(l[b])
	if a != ahead && l[a].Flag && l[b].Flag {
		demerits += api.FlagDemerits
	}
	return demerits, classOf(set), true
}

// breakDemerits is what the item itself costs, or saves, at which a line is
// broken: where there is no choice, it saves nothing.
func breakDemerits(x api.Item) int64 {
	switch {
	case x.Kind != api.ItemPenalty || isForced(x):
		return 0
	case x.Penalty < 0:
		return -square(x.Penalty)
	}
	return square(x.Penalty)
}

func square(n int) int64 {
	return int64(n) * int64(n)
}

func classOf(set api.Setting) int {
	switch {
	case set.Badness <= decentBadness:
		return decent
	case set.Sign < 0:
		return tight
	case set.Badness < veryLooseBadness:
		return loose
	}
	return veryLoose
}

func Total(l []api.Item, breaks []int, width int64, tolerance int) (int64, bool) {
	if len(breaks) == 0 || breaks[len(breaks)-1] != len(l)-1 {
		return 0, false
	}
	var total int64
	a, before := ahead, decent
	for _, b := range breaks {
		demerits, class, ok := Cost(l, a, b, width, tolerance)
		if !ok {
			return 0, false
		}
		total += demerits
		if areUnlike(class, before) {
			total += api.ClassDemerits
		}
		a, before = b, class
	}
	return total, true
}

// areUnlike is for classes of which one is not beside the other.
func areUnlike(a, b int) bool {
	return max(a, b)-min(a, b) > 1
}
