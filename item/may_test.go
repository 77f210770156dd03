package item

import (
	"math"
	"slices"
	"testing"

	"variorum/api"
)

// validOf is the chapter's list of conditions, in its order, kind by kind.
func validOf(x api.Item) bool {
	g := x.Glue
	switch x.Kind {
	case 0:
		return g.Width >= 0 && g.Width <= 1073741823 && g.Stretch == 0 && g.Shrink == 0 && g.Order == 0 && x.Penalty == 0 && !x.Flag && x.Word >= 0 && x.Part >= 0
	case 1:
		list := g.Width >= -1073741823 && g.Width <= 1073741823 && g.Stretch >= 0 && g.Stretch <= 1073741823 && g.Shrink >= 0 && g.Shrink <= 1073741823 && g.Order >= 0 && g.Order <= 3
		return list && g.Width >= g.Shrink && x.Penalty == 0 && !x.Flag && x.Word == 0 && x.Part == 0
	case 2:
		return x.Penalty >= -10000 && x.Penalty <= 10000 && g.Width >= 0 && g.Width <= 1073741823 && g.Stretch == 0 && g.Shrink == 0 && g.Order == 0 && x.Word == 0 && x.Part == 0
	}
	return false
}

// mayOf adds up what is valid: none of it is negative, nor does a sum of 2000
// wrap round.
func mayOf(l []api.Item) bool {
	var width, stretch, shrink int64
	for _, x := range l {
		if len(l) > 2000 || !validOf(x) {
			return false
		}
		width, stretch, shrink = width+x.Glue.Width, stretch+x.Glue.Stretch, shrink+x.Glue.Shrink
	}
	return max(width, stretch, shrink) <= 1073741823
}

// stations are items of each kind that are just valid.
var stations = []api.Item{
	box(0, 0, 0), box(0, 0, widest), box(math.MaxInt, math.MaxInt, 7),
	space(), {Kind: 1}, {Kind: 1, Glue: api.Glue{Width: widest, Stretch: widest, Shrink: widest, Order: 3}}, {Kind: 1, Glue: api.Glue{Order: 2}}, {Kind: 1, Glue: api.Glue{Width: 5, Shrink: 5}},
	parted(0), parted(widest), {Kind: 2}, {Kind: 2, Penalty: 10000, Flag: true}, {Kind: 2, Penalty: -10000, Flag: true}, {Kind: 2, Penalty: -1},
}

// P9.3: each kind of items at its bounds, and each condition broken alone.
func TestMay(t *testing.T) {
	for _, x := range stations {
		if !May(listed(x)) || !May(listed(box(0, 0, 0), x, api.Item{Kind: 2})) {
			t.Errorf("%v is not valid", x)
		}
	}
	bad := func(x api.Item, change func(x *api.Item)) {
		t.Helper()
		change(&x)
		for _, l := range [][]api.Item{listed(x), concat(ends(), listed(x)), concat(listed(x), ends()), concat(ends(), listed(x), ends())} {
			if May(l) {
				t.Errorf("%v is valid", x)
			}
		}
	}
	for _, x := range []api.Item{box(3, 4, 5), space(), parted(6), {Kind: 2}} {
		for _, n := range []int64{-1, widest + 1, math.MinInt64, math.MaxInt64, 1 << 32} {
			bad(x, func(x *api.Item) { x.Glue.Width = n })
			bad(x, func(x *api.Item) { x.Glue.Stretch = n })
			bad(x, func(x *api.Item) { x.Glue.Shrink = n })
		}
		for _, n := range []int{-1, 4, math.MinInt, math.MaxInt} {
			bad(x, func(x *api.Item) { x.Glue.Order = n })
		}
		for _, n := range []int{-10001, 10001, math.MinInt, math.MaxInt} {
			bad(x, func(x *api.Item) { x.Penalty = n })
		}
		for _, n := range []int{-1, 3, 4, 5, math.MinInt, math.MaxInt} {
			bad(x, func(x *api.Item) { x.Kind = n })
		}
		bad(x, func(x *api.Item) { x.Word = -1 })
		bad(x, func(x *api.Item) { x.Part = -1 })
		bad(x, func(x *api.Item) { x.Word = math.MinInt })
		bad(x, func(x *api.Item) { x.Part = math.MinInt })
		if x.Kind != 0 {
			bad(x, func(x *api.Item) { x.Word = 1 })
			bad(x, func(x *api.Item) { x.Part = 1 })
		}
		if x.Kind != 1 {
			bad(x, func(x *api.Item) { x.Glue.Stretch = 1 })
			bad(x, func(x *api.Item) { x.Glue.Shrink = 1 })
			bad(x, func(x *api.Item) { x.Glue.Order = 1 })
		}
		if x.Kind != 2 {
			bad(x, func(x *api.Item) { x.Penalty = 1 })
			bad(x, func(x *api.Item) { x.Penalty = -1 })
			bad(x, func(x *api.Item) { x.Flag = true })
		}
	}
	bad(space(), func(x *api.Item) { x.Glue.Shrink = x.Glue.Width + 1 })
	bad(space(), func(x *api.Item) { x.Glue.Width = x.Glue.Shrink - 1 })
	bad(api.Item{Kind: 1}, func(x *api.Item) { x.Glue.Shrink = 1 })
}

// P9.3: every item out of values at the bounds, against the chapter's words.
func TestAllItems(t *testing.T) {
	small := []int{-1, 0, 1}
	for kind := -1; kind <= 3; kind++ {
		for _, width := range []int64{-1, 0, 5, widest, widest + 1} {
			for _, stretch := range []int64{-1, 0, 1, widest + 1} {
				for _, shrink := range []int64{-1, 0, 5, 6} {
					for _, order := range []int{-1, 0, 3, 4} {
						for _, penalty := range []int{-10001, -10000, 0, 10000, 10001} {
							for _, word := range small {
								for _, part := range small {
									for _, flag := range []bool{false, true} {
										x := api.Item{Kind: kind, Glue: api.Glue{Width: width, Stretch: stretch, Shrink: shrink, Order: order}, Penalty: penalty, Flag: flag, Word: word, Part: part}
										if May(listed(x)) != validOf(x) {
											t.Errorf("May of %v: %v", x, !validOf(x))
										}
									}
								}
							}
						}
					}
				}
			}
		}
	}
}

// P9.3: the sums, over items of all kinds, and how many there may be.
func TestSums(t *testing.T) {
	for _, a := range stations {
		for _, b := range stations {
			for _, c := range stations {
				l := listed(a, b, c)
				if May(l) != mayOf(l) {
					t.Errorf("May of %v: %v", l, !mayOf(l))
				}
			}
		}
	}
	glue := func(width, stretch, shrink int64, order int) api.Item {
		return api.Item{Kind: 1, Glue: api.Glue{Width: width, Stretch: stretch, Shrink: shrink, Order: order}}
	}
	for i, x := range []struct {
		l  []api.Item
		ok bool
	}{
		{listed(box(0, 0, widest-1), box(0, 1, 1)), true}, {listed(box(0, 0, widest), box(0, 1, 1)), false},
		{listed(box(0, 0, widest-1), glue(1, 0, 0, 0)), true}, {listed(box(0, 0, widest), glue(1, 0, 0, 0)), false},
		{listed(box(0, 0, widest-1), parted(1)), true}, {listed(box(0, 0, widest), parted(1)), false}, // what is wide if it is broken there counts too
		{listed(parted(widest-1), parted(1)), true}, {listed(parted(widest), parted(1)), false}, {listed(parted(widest), glue(1, 0, 0, 0)), false},
		{listed(glue(0, widest-1, 0, 0), glue(0, 1, 0, 3)), true}, {listed(glue(0, widest, 0, 0), glue(0, 1, 0, 3)), false}, {listed(glue(0, widest, 0, 1), glue(0, 1, 0, 1)), false},
		{listed(glue(widest, 0, widest, 0)), true}, {listed(glue(widest-1, 0, widest-1, 0), glue(1, 0, 1, 2)), true}, {listed(glue(widest-1, 0, widest-1, 0), glue(2, 0, 2, 2)), false},
		{many(box(0, 0, 0), 2000), true}, {many(box(0, 0, 0), 2001), false}, {many(glue(0, 0, 0, 0), 2000), true}, {many(glue(0, 0, 0, 0), 2001), false}, {many(parted(0), 2000), true}, {many(parted(0), 2001), false},
		{many(glue(536870, 536870, 536870, 0), 2000), true}, {many(glue(536871, 0, 0, 0), 2000), false}, {many(glue(0, 536871, 0, 0), 2000), false}, {many(glue(536871, 0, 536871, 0), 2000), false},
		{many(box(0, 0, 536870), 2000), true}, {many(box(0, 0, 536871), 2000), false}, {many(parted(536871), 2000), false},
		{many(glue(widest, widest, widest, 0), 2000), false}, {many(parted(widest), 2000), false},
		{append(many(box(0, 0, 0), 1999), box(0, 0, -1)), false}, {append(many(box(0, 0, 0), 1999), api.Item{Kind: 3}), false},
	} {
		if May(x.l) != x.ok || mayOf(x.l) != x.ok {
			t.Errorf("list %d: May %v", i, May(x.l))
		}
	}
}

// R3, R4: what is asked stays as it is.
func TestMayChangesNothing(t *testing.T) {
	for range 3 {
		l := concat(stations, ends(), listed(api.Item{Kind: 9, Word: 4}))
		May(l)
		if !slices.Equal(l, concat(stations, ends(), listed(api.Item{Kind: 9, Word: 4}))) {
			t.Errorf("the items became %v", l)
		}
	}
}
