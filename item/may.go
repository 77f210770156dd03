package item

import (
	"variorum/api"
	"variorum/glue"
	"variorum/scaled"
)

func May(l []api.Item) bool {
	if len(l) > api.MaxItems {
		return false
	}
	var glues []api.Glue
	for _, x := range l {
		if !valid(x) {
			return false
		}
		glues = append(glues, x.Glue)
	}
	// glue.May adds up the sizes of the widths, of which none is negative here.
	return glue.May(glues)
}

// valid sets to zero, in its copy of the item, what a kind alone may have, once
// that is in order: so each kind goes on with the conditions of the next one.
func valid(x api.Item) bool {
	switch x.Kind {
	case api.ItemBox:
		if x.Word < 0 || x.Part < 0 || !isPlain(x.Glue) {
			return false
		}
		x.Word, x.Part = 0, 0
		fallthrough
	case api.ItemGlue:
		if x.Penalty != 0 || x.Flag || x.Glue.Width < x.Glue.Shrink || !glue.May([]api.Glue{x.Glue}) {
			return false
		}
		x.Glue = api.Glue{Width: x.Glue.Width}
		fallthrough
	case api.ItemPenalty:
		return x.Word == 0 && x.Part == 0 && isPlain(x.Glue) && isWidth(x.Glue.Width) && isPenalty(x.Penalty)
	}
	return false
}

// isPlain is for glue that has nothing but a width.
func isPlain(g api.Glue) bool {
	return g == api.Glue{Width: g.Width}
}

func isWidth(n int64) bool {
	return n >= 0 && scaled.Fits(n)
}

func isPenalty(n int) bool {
	return n >= -api.Infinite && n <= api.Infinite
}
