package shape

import (
	"variorum/api"
	"variorum/metric"
	"variorum/utf"
)

func Word(m api.Metric, s string) ([]api.Part, api.Fault) {
	letters, f := utf.Decode(s)
	if f.Code != api.OK {
		return nil, f
	}
	var parts []api.Part
	for _, p := range split(letters) {
		part, f := box(m, letters[p.from:p.to])
		if f.Code != api.OK {
			return nil, inWord(f, p.from)
		}
		parts = append(parts, part)
	}
	if len(parts) == 0 {
		return nil, api.Fault{Code: api.ErrShapeEmpty}
	}
	return parts, api.Fault{}
}

func Hyphen(m api.Metric) api.Part {
	part, _ := box(m, []rune{m.Hyphen})
	return part
}

// span is where a part's letters stand in a word.
type span struct{ from, to int }

// split finds the parts that are not empty. The end of the word ends a part as
// a soft hyphen does.
func split(letters []rune) []span {
	var parts []span
	from := 0
	for at := range len(letters) + 1 {
		if at < len(letters) && letters[at] != api.SoftHyphen {
			continue
		}
		if from < at {
			parts = append(parts, span{from, at})
		}
		from = at + 1
	}
	return parts
}

// inWord makes a fault of a part's letters, which begin at from, one of the
// word's.
func inWord(f api.Fault, from int) api.Fault {
	if f.Code == api.ErrShapeLetter {
		f.At += from
	}
	return f
}

// box has the text of the letters as they were ahead of being joined: a
// ligature is how they look, not what they say. It answers the zero Part beside
// a fault.
func box(m api.Metric, letters []rune) (api.Part, api.Fault) {
	glyphs, width, f := Letters(m, letters)
	if f.Code != api.OK {
		return api.Part{}, f
	}
	text, _ := utf.Encode(letters) // empty for a hyphen that is no letter
	part := api.Part{Text: text, Width: width}
	for _, g := range glyphs {
		c, _ := metric.Find(m, g.Code)
		part.Height = max(part.Height, c.Height)
		part.Depth = max(part.Depth, c.Depth)
	}
	return part, api.Fault{}
}
