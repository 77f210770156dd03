package sigla

import (
	"strings"

	"variorum/api"
)

const (
	span      = ".." // between the first and the last key of several
	leastSpan = 3    // keys that are written as a span
)

func Compact(t []api.Siglum, keys []string) (string, api.Fault) {
	if !May(t) {
		return "", noTable()
	}
	indices := places(t)
	used := make([]bool, len(t))
	for at, key := range keys {
		i, ok := indices[key]
		if !ok {
			return "", noKey(at)
		}
		used[i] = true
	}
	return short(t, used), api.Fault{}
}

func Expand(t []api.Siglum, s string) ([]string, api.Fault) {
	if !May(t) {
		return nil, noTable()
	}
	if s == "" {
		return nil, api.Fault{} // no word, where a split finds an empty one
	}
	indices := places(t)
	var keys []string
	at := 0
	for word := range strings.SplitSeq(s, blank) {
		first, last, ok := denoted(indices, word)
		if !ok {
			return nil, noKey(at)
		}
		for _, x := range t[first : last+1] {
			keys = append(keys, strings.Clone(x.Key))
		}
		at++
	}
	return keys, api.Fault{}
}

func noTable() api.Fault     { return api.Fault{Code: api.ErrSiglaLine, At: -1} }
func noKey(at int) api.Fault { return api.Fault{Code: api.ErrSiglaKey, At: at} }

// short writes the sigla that are used.
func short(t []api.Siglum, used []bool) string {
	var words strings.Builder
	for from := 0; from < len(t); {
		end := from
		for end < len(t) && used[end] {
			end++
		}
		writeRun(&words, t[from:end])
		from = end + 1 // what stands at the end is not used
	}
	return strings.TrimPrefix(words.String(), blank)
}

// writeRun writes adjacent sigla, a blank ahead of each word.
func writeRun(words *strings.Builder, run []api.Siglum) {
	if len(run) >= leastSpan {
		words.WriteString(blank + run[0].Key + span + run[len(run)-1].Key)
		return
	}
	for _, x := range run {
		words.WriteString(blank + x.Key)
	}
}

// denoted answers the indices of the first and the last key that the word
// denotes. There is only one way to cut it, as no key contains a dot.
func denoted(indices map[string]int, word string) (int, int, bool) {
	from, to, isSpan := strings.Cut(word, span)
	first, ok := indices[from]
	if !isSpan {
		return first, first, ok
	}
	last, found := indices[to]
	return first, last, ok && found && first < last
}
