package elab

import (
	"math"
	"slices"
	"strconv"
	"strings"
	"testing"

	"variorum/api"
)

// P14.2: the series of each name, and of all short texts.
func TestSeries(t *testing.T) {
	series := map[string]int{}
	for i, name := range names {
		series[name] = i
		if Series(name) != i {
			t.Errorf("Series(%q) = %d", name, Series(name))
		}
		for _, s := range []string{name + " ", " " + name, name + "\x00", `\` + name, name + name, strings.ToLower(name) + "x", name[:len(name)-1]} {
			if Series(s) != -1 {
				t.Errorf("Series(%q) = %d", s, Series(s))
			}
		}
	}
	if len(series) != 11 {
		t.Fatal("a name is missing")
	}
	is := func(s string) {
		want, ok := series[s]
		if !ok {
			want = -1
		}
		if n := Series(s); n != want {
			t.Errorf("Series(%q) = %d, not %d", s, n, want)
		}
	}
	is("")
	for a := range 256 {
		is(string([]byte{byte(a)}))
		for b := range 256 {
			is(string([]byte{byte(a), byte(b)}))
		}
	}
	const letters = "ABCDEFabcdefnEND"
	for _, a := range letters {
		for _, b := range letters {
			for _, c := range letters {
				is(string([]rune{a, b, c}))
			}
		}
	}
	for i := -2; i < 20; i++ {
		is(strconv.Itoa(i))
	}
	for _, s := range []string{"fF", "FA", "fa", "a", "F", "f", "END", "End", "ends", "en", "\u0410", "A\u0301", strings.Repeat("A", 1<<20), strings.Repeat("end", 1<<20)} {
		is(s)
	}
}

// P14.2: all ranges about the words, and ones far from them.
func TestLemma(t *testing.T) {
	for n := range 6 {
		var s api.Side
		for i := range n {
			s.Words = append(s.Words, "w"+strconv.Itoa(i))
		}
		ends := []int{math.MinInt, math.MinInt + 1, math.MaxInt32 + 1, math.MaxInt - 1, math.MaxInt}
		for i := -3; i <= n+3; i++ {
			ends = append(ends, i)
		}
		for _, from := range ends {
			for _, to := range ends {
				var want []string
				for i := range n {
					if from >= 0 && to <= n && from <= i && i < to {
						want = append(want, "w"+strconv.Itoa(i))
					}
				}
				if l := Lemma(s, api.Note{From: from, To: to}); !slices.Equal(l, want) || want == nil && l != nil {
					t.Errorf("the lemma from %d to %d of %d words: %q", from, to, n, l)
				}
			}
		}
	}
}

// P14.2: nothing but the words and the range counts; the words' letters do not.
func TestLemmaOf(t *testing.T) {
	s := api.Side{Chunks: [][]api.Para{{{From: 1, Ends: []int{2}}}}, Words: []string{"", "\xff", "a b", "\u00ad"}, Notes: []api.Note{{From: 3}}}
	n := api.Note{Series: -1, From: 0, To: 4, Text: []api.Said{{Kind: 9}}, At: -5}
	if l := Lemma(s, n); !slices.Equal(l, s.Words) {
		t.Errorf("%q", l)
	}
	l := of(t, `\left{\chunk{\p{a \ed{b \ed{c}{\A{x}}}{\B{y}} d}}}\right{\chunk{\p{e}\p{\ed{f g h}{\end{z}} i}}}`)
	d, _ := Make(l, nil)
	for _, x := range []struct {
		side, note int
		want       string
	}{{0, 0, "c"}, {0, 1, "b c"}, {1, 0, "f g h"}} {
		if s := strings.Join(Lemma(d.Sides[x.side], d.Sides[x.side].Notes[x.note]), " "); s != x.want {
			t.Errorf("the lemma of note %d of side %d: %q", x.note, x.side, s)
		}
	}
}

// R4: a lemma is new memory, and the side stays as it is.
func TestLemmaShares(t *testing.T) {
	s := api.Side{Words: []string{strings.Clone("ab"), strings.Clone("cd"), strings.Clone("ef"), strings.Clone("gh")}}
	n := api.Note{From: 1, To: 3}
	one, two := Lemma(s, n), Lemma(s, n)
	for _, word := range append(one, two...) {
		for _, x := range s.Words {
			if lies(word, x) {
				t.Errorf("%q lies in an argument", word)
			}
		}
	}
	for i := range one[:cap(one)] {
		one[:cap(one)][i] = "spoilt"
	}
	if !slices.Equal(two, []string{"cd", "ef"}) || !slices.Equal(s.Words, []string{"ab", "cd", "ef", "gh"}) {
		t.Errorf("%q of %q", two, s.Words)
	}
	s.Words[1] = "spoilt"
	if !slices.Equal(two, []string{"cd", "ef"}) {
		t.Errorf("%q", two)
	}
}

// R5, P1: a side of no words, and one of many.
func TestLemmaLengths(t *testing.T) {
	for _, none := range [][]string{nil, {}} {
		for _, n := range []api.Note{{}, {To: 1}, {From: -1}, {From: -1, To: 1}} {
			if l := Lemma(api.Side{Words: none}, n); l != nil {
				t.Errorf("%v: %q", n, l)
			}
		}
	}
	const many = 1 << 20
	s := api.Side{Words: slices.Repeat([]string{"a"}, many)}
	if len(Lemma(s, api.Note{To: many})) != many || Lemma(s, api.Note{To: many + 1}) != nil || len(Lemma(s, api.Note{From: many - 1, To: many})) != 1 || Lemma(s, api.Note{From: many, To: many}) != nil {
		t.Error("a side of many words")
	}
}
