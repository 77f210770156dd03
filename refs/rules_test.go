package refs

import (
	"math"
	"slices"
	"strings"
	"testing"

	"variorum/api"
)

// R3: what a call answers does not hang on earlier ones.
func TestNoState(t *testing.T) {
	a, b := ref("3.5"), ref("3.7")
	for range 3 {
		formats(t, "3.5", "3.7", "", "3.5-7")
		formats(t, "3.5", "3.7", "3.5", "5-7")
		formats(t, "3.5", "3.5", "3.5", "")
		formats(t, "3.5", "3.5", "", "3.5")
		fails(t, "5-7", a, false)
		fails(t, "", b, false)
		for range 2 {
			if got := All([]api.Ref{a, b, a, a}); !slices.Equal(got, []string{"3.5-7", ""}) {
				t.Errorf("All of two pairs is %q", got)
			}
		}
	}
}

// R4: arguments stay as they are, also what lies behind them.
func TestArguments(t *testing.T) {
	list := append(small(1, 2, 1), ref("-1.5"), ref("3.5"), ref("1000000.5"))
	kept := slices.Clone(list)
	for n := range len(list) + 1 {
		All(list[:n])
	}
	if !slices.Equal(list, kept) {
		t.Errorf("the references %v are now %v", kept, list)
	}
}

// R4: a result is new memory.
func TestNewMemory(t *testing.T) {
	list := []api.Ref{ref("3.5"), ref("3.7"), ref("3.5"), ref("3.5"), ref("4.1"), ref("4.1")}
	first, second := All(list), All(list)
	for i := range first {
		first[i] = "changed"
	}
	if want := []string{"3.5-7", "", "4.1"}; !slices.Equal(second, want) {
		t.Errorf("other texts became %q", second)
	}
}

// R5: an empty list and none are the same.
func TestEmpty(t *testing.T) {
	for _, l := range [][]api.Ref{nil, {}, make([]api.Ref, 0, 8), make([]api.Ref, 1)} {
		if got := All(l); len(got) != 0 {
			t.Errorf("All(%v) = %q", l, got)
		}
	}
}

// P1, R1: texts and lists of a great length end in good time.
func TestLong(t *testing.T) {
	const many = 1 << 20
	for _, piece := range []string{"0", "1", ".", ":", "-", "9-", "9.", "9:", "3.5-7", "\x00", "\xff"} {
		long := strings.Repeat(piece, many)
		for _, s := range []string{long, "3.5" + long, "3.5-" + long, "3.5:" + long, "3." + long, "3.5-:" + long, long + "3.5", long + ".5", "3.5-" + long + ".5"} {
			fails(t, s, ref("4.5"), true)
			fails(t, s, ref("4.5"), false)
		}
	}
	list := make([]api.Ref, many+1)
	for i := range list {
		list[i].Line = i / 2
	}
	got := All(list)
	if len(got) != many/2 || got[0] != "0.0" || got[many/2-1] != "524287" {
		t.Errorf("%d texts, from %q to %q", len(got), got[0], got[len(got)-1])
	}
}

// P1, R1: numbers at the bounds of int.
func TestExtremes(t *testing.T) {
	bounds := []int{math.MinInt, math.MinInt + 1, -1, 0, 1, 999999, 1000000, math.MaxInt - 1, math.MaxInt}
	var all []api.Ref
	each(bounds, 3, func(l []int) {
		if len(l) == 3 {
			all = append(all, api.Ref{Page: l[0], Line: l[1], Sub: l[2]})
		}
	})
	within := func(n int) bool { return n == max(0, min(n, 999999)) }
	for i, r := range all {
		if want := within(r.Page) && within(r.Line) && within(r.Sub); May(r) != want {
			t.Errorf("May(%v) = %t", r, !want)
		}
		for _, has := range []bool{false, true} {
			prev := all[(7*i+3)%len(all)]
			s := Format(r, all[len(all)-1-i], prev, has)
			if s == "" {
				continue
			}
			decodes(t, s, prev, has, r, all[len(all)-1-i])
		}
		fails(t, "x", r, true)
	}
	if got := All(all); len(got) != len(all)/2 {
		t.Errorf("%d texts of %d references", len(got), len(all))
	}
}
