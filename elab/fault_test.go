package elab

import (
	"testing"

	"variorum/api"
)

// P14.1: each fault of each context.
func TestFaults(t *testing.T) {
	for code, sources := range map[api.Errno][]string{
		140: {
			"", "% it", `\left{\chunk{\p{a}}}`, `\right{\chunk{\p{a}}}`,
			`\right{\chunk{\p{a}}}\left{\chunk{\p{a}}}`,
			`\text{\chunk{\p{a}}}\text{\chunk{\p{a}}}`,
			`\left{\chunk{\p{a}}}\left{\chunk{\p{a}}}`,
			`\right{\chunk{\p{a}}}\right{\chunk{\p{a}}}`,
			`\left{\chunk{\p{a}}}\text{\chunk{\p{a}}}`,
			`\text{\chunk{\p{a}}}\right{\chunk{\p{a}}}`,
			`\left{\chunk{\p{a}}}\right{\chunk{\p{a}}}\text{\chunk{\p{a}}}`,
			`\text{\chunk{\p{a}}}\left{\chunk{\p{a}}}\right{\chunk{\p{a}}}`,
			`\left{\chunk{\p{a}}}\right{\chunk{\p{a}}}\left{\chunk{\p{a}}}\right{\chunk{\p{a}}}`,
		},
		141: { // contexts that allow no words
			"^a", "^text", `^a \text{\chunk{\p{a}}}`, `\text{\chunk{\p{a}}}^a`, `\left{\chunk{\p{a}}}^a\right{\chunk{\p{a}}}`,
			`\text{^a}`, `\text{\chunk{\p{a}}^b}`, `\text{^chunk}`,
			`\text{\chunk{^a}}`, `\text{\chunk{\p{a}^b}}`, `\text{\chunk{\set{1}^2\p{a}}}`,
			verse("^a"), verse(`\l{a}^b`), verse(`\l{a}^b\l{c}`),
			prose(`\ed{a}{^b}`), prose(`\ed{a}{\A{b}^c}`), prose(`\ed{a}{^A}`),
		},
		142: { // commands where others are allowed, or none
			`^\p`, `^\p{a}`, `^\chunk{\p{a}}`, `^\Text{\chunk{\p{a}}}`, `^\texts{\chunk{\p{a}}}`, `^\tex{\chunk{\p{a}}}`, `\text{\chunk{\p{a}}}^\q`,
			`\text{^\p{a}}`, `\text{^\text{\chunk{\p{a}}}}`, `\text{^\set{1}\chunk{\p{a}}}`, `\text{\chunk{\p{a}}^\q}`, `\left{^\right{\chunk{\p{a}}}}`,
			`\text{\chunk{^\chunk{\p{a}}}}`, `\text{\chunk{^\l{a}}}`, `\text{\chunk{^\ed{a}{}}}`, `\text{\chunk{^\label{a}\p{b}}}`, `\text{\chunk{\p{a}^\P{b}}}`,
			verse(`^\p{a}`), verse(`\l{a}^\verse{\l{b}}`), verse(`^\set{1}\l{a}`), verse(`^\label{a}\l{b}`), verse(`^\L{a}`),
			prose(`^\p{a}`), prose(`a ^\set{1}`), prose(`a ^\A{b}`), prose(`a^\sig{A}`), prose(`a^\ref{b}`), prose(`a^\l{b}`), prose(`\ed{^\A{b}}{}`), prose(`\ed{a^\q}{}`), verse(`\l{a^\l{b}}`),
			prose(`\ed{a}{^\F{b}}`), prose(`\ed{a}{^\a{b}}`), prose(`\ed{a}{^\fF{b}}`), prose(`\ed{a}{^\f{b}}`), prose(`\ed{a}{^\fa{b}}`), prose(`\ed{a}{^\FA{b}}`), prose(`\ed{a}{^\AA{b}}`), prose(`\ed{a}{^\End{b}}`), prose(`\ed{a}{^\ends{b}}`), prose(`\ed{a}{^\label{b}}`), prose(`\ed{a}{^\ed{b}{}}`), prose(`\ed{a}{\A{b}^\sig{A}}`),
			noted(`^\A{b}`), noted(`^\ed{b}{}`), noted(`b ^\label{c}`), noted(`^\p{b}`), noted(`^\set{1}`), noted(`^\Sig{A}`), noted(`^\q`),
			noted(`\sig{^\A}`), noted(`\sig{A ^\sig{B}}`), noted(`\sig{^\ref{b}}`), noted(`\sig{^\q}`),
			noted(`\ref{^\q}`), noted(`\ref{^\ref{b}}`), noted(`\ref{^\label{b}}`),
			prose(`a\label{^\q}`), prose(`a\label{^\label{b}}`), prose(`a\label{^\ed{b}{}}`),
			`\text{\chunk{\set{^\q}\p{a}}}`, `\text{\chunk{\set{^\set{1}}\p{a}}}`, `\text{\chunk{\p{a}\set{^\A}}}`,
		},
		143: { // too few and too many arguments, and none or many words
			`^\text`, `^\left`, `^\right`, `^\text{\chunk{\p{a}}}{}`, `^\text{}{}`, `^\text{}{\q}`, `^\left{\chunk{\p{a}}}{\chunk{\p{a}}}`, `\left{\chunk{\p{a}}}^\right`,
			`\text{^\chunk}`, `\text{^\chunk{\p{a}}{\p{b}}}`, `\text{\chunk{\p{a}}^\chunk{}{}}`,
			`\text{\chunk{^\p}}`, `\text{\chunk{^\p{a}{b}}}`, `\text{\chunk{^\verse}}`, `\text{\chunk{^\verse{\l{a}}{\l{a}}}}`, `\text{\chunk{^\set\p{a}}}`, `\text{\chunk{^\set{1}{2}\p{a}}}`, `\text{\chunk{^\p{\q}{}}}`,
			verse(`^\l`), verse(`^\l{a}{b}`), verse(`\l{a}^\l{a}{}`),
			prose(`^\ed`), prose(`^\ed{a}`), prose(`^\ed{a}{\A{b}}{}`), prose(`^\ed{a}{\A{b}}{\B{c}}{}`), prose(`^\ed{}`), prose(`a^\label`), prose(`a^\label{b}{c}`),
			prose(`\ed{a}{^\A}`), prose(`\ed{a}{^\A{b}{c}}`), prose(`\ed{a}{^\fE}`), prose(`\ed{a}{^\end{}{}}`), prose(`\ed{a}{\end{b}^\end}`),
			noted(`^\sig`), noted(`^\sig{A}{B}`), noted(`^\ref`), noted(`^\ref{b}{c}`), noted(`b ^\sig{}{}`),
			`\text{\chunk{^\set{}\p{a}}}`, `\text{\chunk{^\set{1 2}\p{a}}}`, `\text{\chunk{^\set{a b c}}}`, `\text{\chunk{\p{a}^\set{1 1}}}`,
			prose(`a^\label{}`), prose(`a^\label{b c}`), prose(`a\label{b}^\label{b b}`), prose(`a \ed{b^\label{}}{}`),
			noted(`^\ref{}`), noted(`^\ref{b c}`), noted(`b ^\ref{a a}`),
		},
		144: { // what must not be empty
			`^\text{}`, `^\left{}`, `^\right{}`, `^\text{% it` + "\n}", `\left{\chunk{\p{a}}}^\right{}`, `\text{\chunk{\p{a}}}^\text{}`,
			`\text{^\chunk{}}`, `\text{\chunk{\p{a}}^\chunk{}}`, `\text{^\chunk{\set{1}}}`, `\text{^\chunk{\set{1}\set{2}}\chunk{\p{a}}}`,
			`\text{\chunk{^\p{}}}`, `\text{\chunk{\p{a}^\p{}}}`, `\text{\chunk{^\p{\label{a}}}}`, `\text{\chunk{^\p{\label{a}\label{b}}\p{c}}}`,
			`\text{\chunk{^\verse{}}}`, `\text{\chunk{\p{a}^\verse{}}}`, `\text{\chunk{\verse{\l{a}}^\verse{}}}`,
			verse(`^\l{}`), verse(`\l{a}^\l{}`), verse(`^\l{\label{a}}`), verse(`\l{a}^\l{}\l{b}`),
		},
		145: {
			prose(`^\ed{}{}`), prose(`a ^\ed{}{} b`), prose(`^\ed{}{\A{b}}`), prose(`^\ed{\label{a}}{\A{b}}`), prose(`a \ed{b ^\ed{}{\A{c}} d}{}`), prose(`\ed{^\ed{}{}}{}`), prose(`\ed{a}{}^\ed{}{}`), verse(`\l{a ^\ed{}{}}`),
		},
		146: {
			`\text{\chunk{\set{^0}\p{a}}}`, `\text{\chunk{\set{^10000}\p{a}}}`, `\text{\chunk{\set{^01}\p{a}}}`, `\text{\chunk{\set{^-1}\p{a}}}`, `\text{\chunk{\set{^+1}\p{a}}}`, `\text{\chunk{\set{^a}\p{a}}}`, `\text{\chunk{\set{^1a}\p{a}}}`, `\text{\chunk{\set{^1.0}\p{a}}}`,
			`\text{\chunk{\set{^00}\p{a}}}`, `\text{\chunk{\set{^0001}\p{a}}}`, `\text{\chunk{\set{^09999}\p{a}}}`, `\text{\chunk{\set{^99999}\p{a}}}`, `\text{\chunk{\set{^4294967297}\p{a}}}`, `\text{\chunk{\set{^18446744073709551617}\p{a}}}`, `\text{\chunk{\set{^99999999999999999999999}\p{a}}}`,
			`\text{\chunk{\set{^0x1}\p{a}}}`, `\text{\chunk{\set{^1_0}\p{a}}}`, `\text{\chunk{\set{^1e1}\p{a}}}`, "\\text{\\chunk{\\set{^\u0661}\\p{a}}}", "\\text{\\chunk{\\set{^1\u00ad}\\p{a}}}", `\text{\chunk{\set{^\%}\p{a}}}`, `\text{\chunk{\p{a}\set{^0}}}`, `\text{\chunk{\set{^IV}\p{a}}}`,
		},
		147: {
			prose(`a\label{b}\label{^b}`), prose(`\label{b}a\label{c}\label{^b}`), `\text{\chunk{\p{a\label{b}}\p{\label{^b}c}}}`, `\text{\chunk{\p{a\label{b}}}\chunk{\verse{\l{\label{^b}c}}}}`,
			`\left{\chunk{\p{a\label{b}}}}\right{\chunk{\p{a\label{^b}}}}`, prose(`\label{b}\ed{a \label{^b}}{}`), prose(`\ed{a \label{b}}{}\label{^b}`), prose(`\ed{a \ed{\label{b}c}{}\label{^b}}{}`), prose(`\label{\-}a\label{^` + "\u00ad" + `}`),
		},
		148: {
			noted(`\sig{^D}`), noted(`\sig{A ^D B}`), noted(`\sig{^a}`), noted(`\sig{^C}`), noted(`\sig{^C22}`), noted(`\sig{^A..B}`), noted(`\sig{A B ^AB}`), noted(`\sig{A} \sig{^D}`), prose(`\ed{a}{\end{\sig{^Codex}}}`),
		},
		150: {
			`\left{\chunk{\p{a}}}^\right{\chunk{\p{a}}\chunk{\p{b}}}`, `\left{\chunk{\p{a}}\chunk{\p{b}}}^\right{\chunk{\p{a}}}`, `\left{\chunk{\p{a}}\chunk{\p{b}}\chunk{\p{c}}}^\right{\chunk{\p{a}\p{b}\p{c}}}`,
		},
		151: {
			noted(`\ref{^b}`), prose(`a\label{b}\ed{c}{\A{\ref{b}\ref{^c}}}`), noted(`x \ref{^x}`), prose(`a\label{b}\ed{c}{\A{\ref{^B}}}`), prose(`a\label{b}\ed{c}{\A{\ref{^bb}}\B{\ref{d}}}`),
			`\left{\chunk{\p{\ed{a}{\A{\ref{^x}}}}}}\right{\chunk{\p{\ed{a}{\A{\ref{y}}}}}}`, `\left{\chunk{\p{\ed{a}{\A{\ref{l}}}\label{l}}}}\right{\chunk{\p{\ed{a}{\A{\ref{l}\ref{^y}}}}}}`,
			prose(`\ed{a \ed{b}{\A{\ref{^x}}}}{\B{\ref{y}}}`), verse(`\l{\ed{a}{\A{}}}\l{\ed{b}{\end{b \ref{^x}}}}`),
		},
	} {
		for _, source := range sources {
			refuses(t, code, source)
		}
	}
}

// P14.1: of several faults the first one is told: of one node, of a list and its
// nodes, of two lists, and of the visit and what is checked after it.
func TestOrderOfFaults(t *testing.T) {
	for _, x := range []struct {
		code   api.Errno
		source string
	}{
		// The nodes one behind the other, whatever their faults are.
		{141, `^a \p \text{}`}, {142, `^\p a \text{}`}, {144, `^\text{} a \p`}, {143, `^\text \p a`},
		{142, prose(`^\p{}{}`)}, {142, prose(`^\p{\q}`)}, {143, prose(`^\ed{\q}`)}, {143, prose(`^\ed{}{\q}{}`)}, {142, noted(`^\q{a}{b} \sig`)},
		{142, prose(`a ^\q \ed{}{}`)}, {145, prose(`a ^\ed{}{} \q`)}, {142, prose(`\label{l}a ^\q \label{l}`)}, {147, prose(`\label{l}a\label{^l} \q`)},
		{148, noted(`\sig{^D \q}`)}, {142, noted(`\sig{^\q D}`)}, {148, noted(`\sig{A ^D}`) + `\q`},

		// A command ahead of its arguments, and these in order.
		{142, prose(`\ed{^\q}{\q}`)}, {145, prose(`^\ed{}{\q}`)}, {142, prose(`\ed{a}{^\q}`)}, {145, prose(`\ed{^\ed{}{b}}{c}`)}, {141, prose(`\ed{\ed{a}{^b}}{c}`)}, {145, prose(`^\ed{\label{l}}{\A{\sig{D}}}`)},
		{147, prose(`\label{l}\ed{\label{^l}}{}`)}, {142, prose(`\ed{\label{l}^\q}{}`)},

		// A list behind its nodes.
		{142, `\text{^\q}`}, {142, `\text{\chunk{^\q}}`}, {142, verse(`^\q`)}, {142, prose(`^\q`)}, {142, prose(`\ed{^\q}{}`)}, {142, `\text{\chunk{\set{1}^\q}}`}, {143, `\text{\chunk{^\set{}}}`}, {146, `\text{\chunk{\set{^0}}}`},
		{144, `\text{\chunk{^\p{}}}`}, {144, `\text{\chunk{\verse{^\l{}}}}`}, {145, prose(`^\ed{}{}`)}, {147, prose(`\label{l}\label{^l}`)},
		{142, `\text{\chunk{\set{a ^\q}}}`}, {142, `\text{\chunk{\set{^\q 0}}}`}, {143, `\text{\chunk{^\set{0 0}}}`}, {143, `\text{\chunk{^\set{1 0}}}`}, {142, prose(`a\label{l}\label{l ^\q}`)}, {143, prose(`a\label{l}^\label{l l}`)}, {142, noted(`\ref{l ^\q}`)}, {143, noted(`^\ref{l l}`)},
		{144, `^\text{}\text{}`}, {144, `\text{\chunk{\p{a}}}\text{^\chunk{}}`}, {141, `\right{\chunk{\p{a}}}\left{\chunk{\p{a}^b}}`}, {148, noted(`\ref{l}\sig{^D}`)},
		{143, `\left{\chunk{\p{a}}}\text{\chunk{^\p}}`},

		// All of the visit ahead of ErrElabChunks, this ahead of ErrElabRef.
		{140, noted(`\ref{l}`) + noted(`\ref{l}`)}, {140, `\right{\chunk{\p{a}}}\left{\chunk{\p{a}}\chunk{\p{a}}}`}, {140, `\left{\chunk{\p{a}}}\left{\chunk{\p{a}}\chunk{\p{a}}}`}, {140, `\left{\chunk{\p{\ed{a}{\A{\ref{l}}}}}}`},
		{142, `\left{\chunk{\p{a}}}\right{\chunk{\p{a}}\chunk{\p{b ^\q}}}`}, {142, `\left{\chunk{\p{\ed{a}{\A{\ref{l}}}}}}\right{\chunk{\p{a}^\q}}`}, {141, `\left{\chunk{\p{a}}}\right{\chunk{\p{a}}\chunk{\p{a}}} ^b`},
		{150, `\left{\chunk{\p{\ed{a}{\A{\ref{l}}}}}}^\right{\chunk{\p{a}}\chunk{\p{b}}}`}, {150, `\left{\chunk{\p{a}}\chunk{\p{b}}}^\right{\chunk{\p{\ed{a}{\A{\ref{l}}}}}}`},
	} {
		refuses(t, x.code, x.source)
	}
}

// P14.1: the labels and sides of a source that is at fault leave no trace: a
// source without the fault is told whole.
func TestMended(t *testing.T) {
	refuses(t, 147, prose(`a\label{l}\label{^l}`))
	makes(t, prose(`a\label{l}\label{m}`), "side 0\n[0-1]\na\nlabel l of 0 at 1\nlabel m of 0 at 1\n")
	refuses(t, 151, prose(`a\ed{b}{\A{\ref{^l}}}`))
	makes(t, prose(`a\ed{b}{\A{\ref{l}}}\label{l}`), "side 0\n[0-2]\na b\nnote 0 of 1..2 at 24: ->l@32\nlabel l of 0 at 2\n")
}

// P14.1: a word is a key where the table has it, and the table need not be valid.
func TestTables(t *testing.T) {
	l := of(t, noted(`\sig{A}`))
	at := 33
	for _, table := range [][]api.Siglum{{{Key: "A"}}, {{Key: "A"}, {Key: "A"}}, {{Key: "+", Name: "x"}, {Key: "A", Name: "y"}}, append(make([]api.Siglum, 200), api.Siglum{Key: "A"})} {
		if d, f := Make(l, table); f != (api.Fault{}) || d.Sides[0].Notes[0].Text[0] != (api.Said{Kind: 1, Text: "A", At: at}) {
			t.Errorf("%.80v: %v", table, f)
		}
	}
	for _, table := range [][]api.Siglum{nil, {}, {{Key: "B", Name: "A"}}, {{Key: "a"}, {Key: "A "}, {Key: "AA"}, {Key: ""}}, make([]api.Siglum, 200)} {
		if d, f := Make(l, table); f != (api.Fault{Code: 148, At: at}) || textOf(d) != "" {
			t.Errorf("%.80v: %v", table, f)
		}
	}
}
