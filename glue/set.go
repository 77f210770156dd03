package glue

import (
	"variorum/api"
	"variorum/scaled"
)

func Set(l []api.Glue, target int64) (api.Setting, bool) {
	sum, ok := Total(l)
	if !ok {
		return api.Setting{}, false
	}
	excess, ok := scaled.Sub(target, sum.Width)
	if !ok {
		return api.Setting{}, false
	}
	switch {
	case excess > 0:
		return stretched(sum, excess), true
	case excess < 0:
		return shrunk(sum, excess), true
	}
	return api.Setting{}, true
}

// stretched lets only the highest order give, as it is infinitely more than
// those below it.
func stretched(sum api.Sum, excess int64) api.Setting {
	for order := len(sum.Stretch) - 1; order > 0; order-- {
		if sum.Stretch[order] != 0 {
			return api.Setting{Sign: 1, Order: order, Excess: excess}
		}
	}
	if sum.Stretch[0] == 0 {
		return api.Setting{Excess: excess, Badness: api.Infinite}
	}
	return api.Setting{Sign: 1, Excess: excess, Badness: Badness(excess, sum.Stretch[0])}
}

func shrunk(sum api.Sum, excess int64) api.Setting {
	bad := api.Overfull
	if sum.Shrink >= -excess {
		bad = Badness(-excess, sum.Shrink)
	}
	return api.Setting{Sign: -1, Excess: excess, Badness: bad}
}

func Widths(l []api.Glue, target int64) ([]int64, bool) {
	set, ok := Set(l, target)
	if !ok {
		return nil, false
	}
	more := shares(amount(l, set), weights(l, set))
	widths := make([]int64, len(l))
	for i, g := range l {
		widths[i] = g.Width + int64(set.Sign)*more[i]
	}
	return widths, true
}

// amount is what all glue together is to be widened or narrowed by: it never
// shrinks by more than it can.
func amount(l []api.Glue, set api.Setting) int64 {
	if set.Sign >= 0 {
		return set.Excess
	}
	sum, _ := Total(l)
	return min(-set.Excess, sum.Shrink)
}

func weights(l []api.Glue, set api.Setting) []int64 {
	w := make([]int64, len(l))
	for i, g := range l {
		switch {
		case set.Sign < 0:
			w[i] = g.Shrink
		case set.Sign > 0 && g.Order == set.Order:
			w[i] = g.Stretch
		}
	}
	return w
}

// shares cuts total by the weights. Each share is the difference of two
// truncated parts, so that no rounding adds up. The total and the weights' sum
// fit: their product is less than 1<<60.
func shares(total int64, weights []int64) []int64 {
	var all int64
	for _, w := range weights {
		all += w
	}
	l := make([]int64, len(weights))
	if all == 0 {
		return l
	}
	var ahead, given int64
	for i, w := range weights {
		ahead += w
		part := total * ahead / all
		l[i] = part - given
		given = part
	}
	return l
}
