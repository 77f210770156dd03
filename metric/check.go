package metric

import (
	"variorum/api"
	"variorum/scaled"
	"variorum/utf"
)

func Check(m api.Metric) api.Errno {
	known := func(codes ...rune) bool {
		for _, c := range codes {
			if _, ok := Find(m, c); !ok {
				return false
			}
		}
		return true
	}
	if validSpace(m.Space) && validChars(m.Chars) && known(m.Hyphen) && validKerns(m.Kerns, known) && validLigs(m.Ligs, known) {
		return api.OK
	}
	return api.ErrMetricTable
}

func validSpace(g api.Glue) bool {
	return g.Order == 0 && areSizes(g.Width, g.Stretch, g.Shrink)
}

// areSizes is for lengths that must not be negative.
func areSizes(lengths ...int64) bool {
	for _, n := range lengths {
		if n < 0 || !scaled.Fits(n) {
			return false
		}
	}
	return true
}

func validChars(l []api.Char) bool {
	if len(l) > api.MaxChars || !ascend(l, func(a, b api.Char) bool { return a.Code < b.Code }) {
		return false
	}
	for _, c := range l {
		if !utf.Letter(c.Code) || !areSizes(c.Width, c.Height, c.Depth) {
			return false
		}
	}
	return true
}

func validKerns(l []api.Kern, known func(...rune) bool) bool {
	if len(l) > api.MaxPairs || !ascend(l, func(a, b api.Kern) bool { return below(a.A, a.B, b.A, b.B) }) {
		return false
	}
	for _, k := range l {
		if !known(k.A, k.B) || !scaled.Fits(k.Width) {
			return false
		}
	}
	return true
}

func validLigs(l []api.Lig, known func(...rune) bool) bool {
	if len(l) > api.MaxPairs || !ascend(l, func(a, b api.Lig) bool { return below(a.A, a.B, b.A, b.B) }) {
		return false
	}
	for _, x := range l {
		if !known(x.A, x.B, x.To) {
			return false
		}
	}
	return true
}

// ascend tells whether each element is below the next one.
func ascend[T any](l []T, below func(a, b T) bool) bool {
	for i := 1; i < len(l); i++ {
		if !below(l[i-1], l[i]) {
			return false
		}
	}
	return true
}

// below tells whether the pair a, b stands ahead of the pair c, d.
func below(a, b, c, d rune) bool {
	return a < c || a == c && b < d
}
