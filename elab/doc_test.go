package elab

import (
	"math"
	"slices"
	"strconv"
	"strings"
	"testing"

	"variorum/api"
)

// P14.1: the chapter's example.
func TestExample(t *testing.T) {
	makes(t, `\text{\chunk{\p{a \ed{b c}{\A{d}} e}}}`, `side 0
[0-4]
a b c e
note 0 of 1..3 at 27: d@30
`)
}

// P14.1: docs worked out by hand.
func TestDocs(t *testing.T) {
	for source, want := range map[string]string{
		prose("a"):                            "side 0\n[0-1]\na\n",
		prose("a b  c"):                       "side 0\n[0-3]\na b c\n",
		` \text % it` + "\n" + prose("a")[5:]: "side 0\n[0-1]\na\n",
		prose(`p 1 0 A \% \\ \{`):             "side 0\n[0-7]\np 1 0 A % \\ {\n",
		prose(`a\-b`):                         "side 0\n[0-1]\na\u00adb\n",
		verse(`\l{a}`):                        "side 0\n[0/1]\na\n",
		verse(`\l{a b}\l{c}\l{d e f}`):        "side 0\n[0/2/3/6]\na b c d e f\n",

		// Paragraphs and chunks follow one another.
		`\text{\chunk{\p{a b}\p{c}\verse{\l{d}\l{e f}}\p{g}}}`:                                  "side 0\n[0-2 2-3 3/4/6 6-7]\na b c d e f g\n",
		`\text{\chunk{\p{a b}}\chunk{\verse{\l{c}}\p{d}}}`:                                      "side 0\n[0-2]\n[2/3 3-4]\na b c d\n",
		`\text{\chunk{\p{a}}\chunk{\p{b}}\chunk{\p{c}}}`:                                        "side 0\n[0-1]\n[1-2]\n[2-3]\na b c\n",
		`\left{\chunk{\p{a b}}}\right{\chunk{\p{c}}}`:                                           "side 0\n[0-2]\na b\nside 1\n[0-1]\nc\n",
		`\left{\chunk{\p{a}}\chunk{\p{b}\p{c}}}\right{\chunk{\verse{\l{d}\l{e}}}\chunk{\p{f}}}`: "side 0\n[0-1]\n[1-2 2-3]\na b c\nside 1\n[0/1/2]\n[2-3]\nd e f\n",

		// What is set.
		`\text{\chunk{\set{1}\p{a}}}`:                                          "side 0\n[0-1=1]\na\n",
		`\text{\chunk{\set{9999}\verse{\l{a}\l{b}}}}`:                          "side 0\n[0/1/2=9999]\na b\n",
		`\text{\chunk{\p{a}\set{12}\p{b}\p{c}}}`:                               "side 0\n[0-1 1-2=12 2-3]\na b c\n",
		`\text{\chunk{\set{1}\set{2}\set{3}\p{a}\set{5}\set{4}\verse{\l{b}}}}`: "side 0\n[0-1=3 1/2=4]\na b\n",
		`\text{\chunk{\p{a}\set{7}}\chunk{\p{b}}}`:                             "side 0\n[0-1]\n[1-2]\na b\n",
		`\text{\chunk{\set{6}\p{a}\set{7}}\chunk{\p{b}\set{8}\p{c}}}`:          "side 0\n[0-1=6]\n[1-2 2-3=8]\na b c\n",
		`\left{\chunk{\p{a}\set{7}}}\right{\chunk{\p{b}}}`:                     "side 0\n[0-1]\na\nside 1\n[0-1]\nb\n",
		`\text{\chunk{\set{10}\p{1}\set{100}\p{2}\set{1000}\p{3}}}`:            "side 0\n[0-1=10 1-2=100 2-3=1000]\n1 2 3\n",

		// Lemmas and their notes.
		prose(`\ed{a}{}`):                  "side 0\n[0-1]\na\n",
		prose(`\ed{a b}{} c`):              "side 0\n[0-3]\na b c\n",
		prose(`\ed{a}{\A{}}`):              "side 0\n[0-1]\na\nnote 0 of 0..1 at 23:\n",
		prose(`\ed{a}{\end{a}}`):           "side 0\n[0-1]\na\nnote 10 of 0..1 at 23: a@28\n",
		verse(`\l{a}\l{b \ed{c}{\fB{d}}}`): "side 0\n[0/1/3]\na b c\nnote 6 of 2..3 at 37: d@41\n",
		prose(`a \ed{b}{\B{c d}\B{}\A{e}} f`): `side 0
[0-3]
a b f
note 1 of 1..2 at 25: c@28 d@30
note 1 of 1..2 at 32:
note 0 of 1..2 at 36: e@39
`,
		// The notes of the inner lemma stand ahead of those of the outer one.
		prose(`a \ed{b \ed{c}{\B{x}} d}{\A{y}} \ed{\ed{e}{\C{z}}}{\D{t}} f`): `side 0
[0-6]
a b c d e f
note 1 of 2..3 at 31: x@34
note 0 of 1..4 at 41: y@44
note 2 of 4..5 at 59: z@62
note 3 of 4..5 at 67: t@70
`,
		// What a note says.
		prose(`a \ed{b}{\A{x \sig{A B} y \sig{C2} \sig{} \ref{n} z}} c\label{n}`): `side 0
[0-3]
a b c
note 0 of 1..2 at 25: x@28 =A@35 =B@37 y@40 =C2@47 ->n@63 z@66
label n of 0 at 3
`,
		// Labels ahead of, inside, between and behind the words.
		prose(`\label{a}x \label{b}\label{c} \ed{\label{d}y\label{e}}{\A{\ref{e}}} z \label{f}`): `side 0
[0-3]
x y z
note 0 of 1..2 at 71: ->e@79
label a of 0 at 0
label b of 0 at 1
label c of 0 at 1
label d of 0 at 1
label e of 0 at 2
label f of 0 at 3
`,
		// References from one side to the other, ahead of and behind the label.
		`\left{\chunk{\p{\ed{a}{\A{\ref{r}}} b\label{l}}}}\right{\chunk{\p{c \label{r}\ed{d}{\end{\ref{l} \ref{r}}}}}}`: `side 0
[0-2]
a b
note 0 of 0..1 at 23: ->r@31
side 1
[0-2]
c d
note 10 of 1..2 at 84: ->l@94 ->r@102
label l of 0 at 2
label r of 1 at 1
`,
	} {
		makes(t, source, want)
	}
}

// P14.1: a name is a word like any other one, and may be that of a command, of a
// key or of a number.
func TestNames(t *testing.T) {
	for _, name := range []string{"a", "p", "A", "C2", "1", "0", `\%`, `a\-b`, "label", "=", "ä"} {
		source := prose(`a\label{` + name + `}\ed{b}{\E{\ref{` + name + `}}}`)
		d, f := Make(of(t, source), witnesses())
		if f != (api.Fault{}) || len(d.Labels) != 1 || len(d.Sides[0].Notes) != 1 || d.Labels[0].Name != d.Sides[0].Notes[0].Text[0].Text {
			t.Errorf("%q: %v, %v", source, d, f)
		}
		pointsBack(t, source, d)
	}
}

// P14.1, P14.2: the command of each series.
func TestSeriesOfNotes(t *testing.T) {
	all := ""
	for i := range names {
		source := prose(`\ed{a}{\` + names[i] + `{b}}`)
		makes(t, source, "side 0\n[0-1]\na\nnote "+strconv.Itoa(i)+" of 0..1 at 23: b@"+strconv.Itoa(25+len(names[i]))+"\n")
		all += `\` + names[10-i] + `{}`
	}
	d, f := Make(of(t, prose(`\ed{a}{`+all+`}`)), nil)
	if f != (api.Fault{}) || len(d.Sides[0].Notes) != 11 {
		t.Errorf("%v, %v", d, f)
	}
}

// P14.1: At is that of the node, whatever it is.
func TestPositions(t *testing.T) {
	for _, at := range []int{0, -1, 7, math.MinInt, math.MaxInt} {
		note := command("fC", at, list(word("x", at), command("sig", 1, list(word("B", at))), command("ref", 2, list(word("l", at)))))
		l := oneOf(command("label", 5, list(word("l", 6))), command("ed", 3, list(word("a", 4)), list(note)))
		d, f := Make(l, witnesses())
		n := strconv.Itoa(at)
		if want := "side 0\n[0-1]\na\nnote 7 of 0..1 at " + n + ": x@" + n + " =B@" + n + " ->l@" + n + "\nlabel l of 0 at 0\n"; textOf(d) != want || f != (api.Fault{}) {
			t.Errorf("%s%v, not\n%s", textOf(d), f, want)
		}
		for code, l := range map[api.Errno][]api.Node{
			141: list(word("a", at)),
			142: list(command("p", at)),
			143: list(command("text", at)),
			144: list(command("text", at, nil)),
			145: oneOf(command("ed", at, nil, nil)),
			148: oneOf(command("ed", 3, list(word("a", 4)), list(command("A", 5, list(command("sig", 6, list(word("D", at)))))))),
			151: oneOf(command("ed", 3, list(word("a", 4)), list(command("A", 5, list(command("ref", 6, list(word("D", at)))))))),
		} {
			if d, f := Make(l, witnesses()); f != (api.Fault{Code: code, At: at}) || textOf(d) != "" {
				t.Errorf("%v, not %d at %d", f, code, at)
			}
		}
	}
}

// P14.1: a word is one also if it has arguments, and none of the words' letters
// counts.
func TestOddWords(t *testing.T) {
	for _, s := range []string{"", " ", "\xff", "a b", `\p{a}`, "\n", strings.Repeat("x", 1<<16)} {
		odd := api.Node{Text: s, Args: [][]api.Node{nil, list(word("b", 1), command("q", 2))}, At: 3}
		note := list(command("A", 5, list(odd, command("ref", 6, list(odd)))))
		d, f := Make(oneOf(odd, command("label", 7, list(odd)), command("ed", 8, list(odd), note)), nil)
		if f != (api.Fault{}) || !slices.Equal(d.Sides[0].Words, []string{s, s}) || d.Labels[0].Name != s || d.Sides[0].Notes[0].Text[0].Text != s || d.Sides[0].Notes[0].Text[1].Text != s {
			t.Errorf("%.80q: %.200q, %v", s, textOf(d), f)
		}
	}
}

// P14.1: at most 5000 words a side, none of them those of notes, names, keys and
// numbers.
func TestManyWords(t *testing.T) {
	side := func(name, s string) string { return `\` + name + `{\chunk{\set{3}` + s + `}}` }
	filled := func(n int) string { return `\p{` + words(n) + `}` }
	for _, s := range []string{
		filled(5000),
		filled(2499) + filled(2501),
		strings.Repeat(filled(1), 5000),
		`\verse{` + strings.Repeat(`\l{a}`, 4999) + `}` + filled(1),
		`\p{` + words(4999) + `\ed{a}{\A{` + words(6000) + `\ref{m}}}\label{m}}`,
		`\p{\label{w}\ed{` + words(2500) + `}{\A{` + words(5001) + `}\fA{\sig{` + strings.Repeat("A B ", 3000) + `}}\end{}}` + words(2500) + `}`,
	} {
		for _, source := range []string{side("text", s), side("left", s) + side("right", filled(5000)), side("left", filled(5000)) + side("right", s)} {
			d, f := Make(of(t, source), witnesses())
			if f != (api.Fault{}) || len(d.Sides[0].Words) != 5000 || len(d.Sides[len(d.Sides)-1].Words) != 5000 {
				t.Errorf("%.80q: %v", source, f)
				continue
			}
			holds(t, d)
		}
	}
	for _, s := range []string{
		`\p{` + words(5000) + `^w}`,
		`\p{` + words(5000) + `^w w w}`,
		`\p{` + words(5000) + `^w \q}`,
		`\p{` + words(5000) + `^w \ed{}{}}`,
		filled(5000) + `\p{^a}`,
		filled(5000) + `\verse{\l{^a}}`,
		`\verse{\l{` + words(2500) + `}\l{` + words(2500) + `^w}}`,
		`\p{` + words(4999) + `\ed{a ^b}{\A{c}}}`,
		`\p{` + words(5000) + `\ed{^b}{\Q{c}}}`,
		`\p{` + words(4999) + `\ed{a}{\A{b}}\label{l}^c}`,
		`\p{` + words(4998) + `\ed{\ed{a}{} b ^c}{}}`,
		strings.Repeat(filled(1), 5000) + `}\chunk{\p{^a}`,
	} {
		refuses(t, 149, side("text", s))
		refuses(t, 149, side("left", filled(5000))+side("right", s))
		refuses(t, 149, side("left", s)+side("right", filled(5000)))
		refuses(t, 149, side("left", s)+`\p`)
	}
	refuses(t, 142, side("text", `\p{`+words(5000)+`^\q w}`))
	refuses(t, 145, side("text", `\p{`+words(5000)+`^\ed{}{}}`))
	refuses(t, 144, side("text", `\p{`+words(5000)+`}^\p{}`))
	refuses(t, 140, side("text", filled(5000))+side("text", filled(5000)))
}
