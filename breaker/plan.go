package breaker

import (
	"variorum/api"
)

// The classes of lines: how many there are, and which one the first line is
// held against.
const (
	decent  = 2
	classes = 4
)

// plan is the best way to go on from a break: where the next line ends, its
// class, and the demerits of it and all lines behind it.
type plan struct {
	demerits int64
	next     int
	class    int
	ok       bool
}

// plans are those from one break, for each class of the line that ends there.
type plans [classes]plan

// done is for the last break, whatever line ends there.
func done() plans {
	var l plans
	for class := range l {
		l[class].ok = true
	}
	return l
}

// improve keeps the plan that was there if the new one is just as good.
func (old *plan) improve(x plan) {
	if !old.ok || x.demerits < old.demerits {
		*old = x
	}
}

// clash is what it costs if two lines in a row are of unlike tightness.
func clash(before, class int) int64 {
	if max(before, class)-min(before, class) > 1 {
		return api.ClassDemerits
	}
	return 0
}
