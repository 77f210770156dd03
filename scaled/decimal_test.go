package scaled

import (
	"math"
	"math/big"
	"strconv"
	"strings"
	"testing"
)

// printed are lengths and their texts, worked out by hand from the procedure.
var printed = []struct {
	n int64
	s string
}{
	{0, "0.0"},
	{1, "0.00002"},
	{2, "0.00003"},
	{3, "0.00005"},
	{4, "0.00006"},
	{5, "0.00008"},
	{6, "0.00009"},
	{7, "0.0001"},
	{32768, "0.5"},
	{16384, "0.25"},
	{21845, "0.33333"},
	{43691, "0.66667"},
	{65535, "0.99998"},
	{65536, "1.0"},
	{65537, "1.00002"},
	{98304, "1.5"},
	{655360, "10.0"},
	{786432, "12.0"},
	{6553600, "100.0"},
	{6554, "0.1"},
	{13107, "0.2"},
	{45875, "0.7"},
	{4736287, "72.27"},
	{widest - 65535, "16383.0"},
	{widest - 1, "16383.99997"},
	{widest, "16383.99998"},
}

// P2.3, P2.5: ordinary lengths and the edges, with both signs.
func TestPrint(t *testing.T) {
	for _, c := range printed {
		if s := Print(c.n); s != c.s {
			t.Errorf("Print(%d) = %q, not %q", c.n, s, c.s)
		}
		if n, ok := Parse(c.s); n != c.n || !ok {
			t.Errorf("Parse(%q) = %d, %v, not %d", c.s, n, ok, c.n)
		}
		if c.n == 0 {
			continue
		}
		if s := Print(-c.n); s != "-"+c.s {
			t.Errorf("Print(%d) = %q", -c.n, s)
		}
		if n, ok := Parse("-" + c.s); n != -c.n || !ok {
			t.Errorf("Parse(-%s) = %d, %v", c.s, n, ok)
		}
	}
}

// P2.3: a length that does not fit has no text.
func TestPrintRefuses(t *testing.T) {
	for _, n := range signed() {
		if s := Print(n); (s == "") == fits(large(n)) {
			t.Errorf("Print(%d) = %q", n, s)
		}
	}
	for _, n := range []int64{widest + 1, -widest - 1, math.MaxInt64, math.MinInt64} {
		if s := Print(n); s != "" {
			t.Errorf("Print(%d) = %q", n, s)
		}
	}
}

// shortest is another way to the digits of r: up to four are cut from half a
// scaled point above r, if what they tell is no more than half a one below it;
// else there are five, to the nearest.
func shortest(r int64) string {
	power := int64(1)
	for k := 1; k < 5; k++ {
		power *= 10
		d := (2*r + 1) * power / 131072
		if d*131072 >= (2*r-1)*power {
			return padded(d, k)
		}
	}
	return padded((r*100000+32768)/65536, 5)
}

func padded(d int64, k int) string {
	s := strconv.FormatInt(d, 10)
	return strings.Repeat("0", k-len(s)) + s
}

// P2.3, P2.5, and P2 for lengths: all fractions, in lengths of every number of
// points' digits, with both signs.
func TestAllFractions(t *testing.T) {
	for r := range int64(65536) {
		digits := shortest(r)
		for _, whole := range []int64{0, 1, 9, 10, 4095, 16383} {
			n := whole*65536 + r
			want := strconv.FormatInt(whole, 10) + "." + digits
			printsAs(t, n, want)
			if n > 0 {
				printsAs(t, -n, "-"+want)
			}
		}
	}
}

func printsAs(t *testing.T, n int64, want string) {
	s := Print(n)
	if s != want {
		t.Errorf("Print(%d) = %q, not %q", n, s, want)
	}
	if m, ok := Parse(s); m != n || !ok {
		t.Errorf("Parse(%q) = %d, %v, not %d", s, m, ok, n)
	}
}

// P2.4: forms that Print does not use, and roundings.
func TestParse(t *testing.T) {
	cases := []struct {
		s string
		n int64
	}{
		{"0.5", 32768},
		{"0", 0}, {"-0", 0}, {"-0.0", 0}, {"00", 0}, {"0.00000000000000000", 0},
		{"1", 65536}, {"-1", -65536}, {"007", 458752}, {"-007.50", -491520},
		{"1.50000000000000000", 98304},
		{"0.1", 6554}, {"0.00001", 1}, {"0.00002", 1}, {"-0.00002", -1},
		{"0.000007", 0}, {"0.000008", 1}, {"-0.000007", 0}, {"-0.000008", -1},
		{"0.00000762939453125", 1}, {"0.00000762939453124", 0}, {"0.00000762939453126", 1},
		{"0.00000000000000001", 0}, {"0.00000000000000009", 0},
		{"0.99999", 65535}, {"0.999992", 65535}, {"0.999993", 65536},
		{"0.99999999999999999", 65536}, {"-0.99999999999999999", -65536},
		{"3.33333333333333333", 218453}, {"72.27", 4736287},
		{"16383", 1073676288}, {"16383.99998", widest}, {"-16383.99998", -widest},
		{"16383.99999", widest}, {"-16383.99999", -widest}, {"16383.999992", widest},
		{"0000000000000000000000000000000000000016383.99999", widest},
	}
	for _, c := range cases {
		if n, ok := Parse(c.s); n != c.n || !ok {
			t.Errorf("Parse(%q) = %d, %v, not %d", c.s, n, ok, c.n)
		}
	}
}

// P2.4, R2: what does not fit or has any other form.
func TestParseRefuses(t *testing.T) {
	texts := []string{
		"", "-", ".", "-.", "--1", "-+1", "+1", "1-", "1-2", "- 1", "+-1", "−1", "+0",
		".5", "-.5", "5.", "-5.", "1..5", "1.5.", "1.5.5", "1.-5", "1.+5", "1,5", "1·5", "..",
		"0.000000000000000000", "1.123456789012345678", "1.5000000000000000000000",
		" 1", "1 ", "1 .5", "1. 5", "1.5 ", "1.5\n", "\t1", "1\x00", "\ufeff1", "1.5\x00",
		"a", "1a", "a1", "1.a", "1.5a", "1.5pt", "1pt", "0x10", "1e3", "1.5e1", "1_000", "1.0_0", "0b1", "0o7", "inf", "NaN",
		"٣", "1.٣", "²", "１", "/", ":", "1/", "1:", "1./", "1.:", "\xff", "1.\xff",
		"16384", "16384.0", "-16384", "16383.999993", "-16383.999993", "16383.99999999999999999",
		"65536", "99999", "163830", "1073741823", "2147483648", "4294967296", "-4294967296", "4294967297.5",
		"281474976710656", "281474976710657", "-281474976710656", "140737488355328",
		"9223372036854775807", "9223372036854775808", "-9223372036854775808", "18446744073709551615",
		"18446744073709551616", "18446744073709551617", "18446744073709551617.5", "340282366920938463463374607431768211457",
	}
	for _, s := range texts {
		if n, ok := Parse(s); n != 0 || ok {
			t.Errorf("Parse(%q) = %d, %v", s, n, ok)
		}
	}
}

// exact is the value of points and fraction in scaled points, to the nearest,
// halves up: what the procedure of P2.4 comes to.
func exact(points, fraction string) *big.Int {
	n, _ := new(big.Int).SetString(points, 10)
	n.Mul(n, large(65536))
	if fraction == "" {
		return n
	}
	d, _ := new(big.Int).SetString(fraction, 10)
	power := new(big.Int).Exp(large(10), large(int64(len(fraction))), nil)
	d.Mul(d, large(131072)).Add(d, power)
	d.Quo(d, power.Mul(power, large(2)))
	return n.Add(n, d)
}

func parsesAs(t *testing.T, points, fraction string) {
	s := points
	if fraction != "" {
		s += "." + fraction
	}
	want := exact(points, fraction)
	n, ok := Parse(s)
	check(t, "Parse "+s, nil, n, ok, want, true)
	n, ok = Parse("-" + s)
	check(t, "Parse -"+s, nil, n, ok, want.Neg(want), true)
}

// P2.4: fractions of all lengths, and such as lie beside a half of a scaled
// point, held against exact numbers.
func TestParseFractions(t *testing.T) {
	for _, points := range []string{"0", "1", "16383", "16384", "00016383"} {
		for k := 0; k <= 17; k++ {
			for _, digits := range []string{"0", "1", "3", "5", "49", "50", "9", "76293945312", "142857"} {
				parsesAs(t, points, strings.Repeat(digits, 17)[:k])
			}
		}
	}
	for d := range 100000 {
		parsesAs(t, "2", padded(int64(d), 5))
	}
	for r := range int64(65536) {
		half := (2*r + 1) * 762939453125 // of 1e17, the last digit in front of it
		for _, d := range []int64{half - 1, half, half + 1} {
			parsesAs(t, "0", padded(d, 17))
		}
	}
}

// P2.4: all short texts over the bytes that matter: which are accepted.
func TestParseShortTexts(t *testing.T) {
	read := 0
	var grow func(s string, more int)
	grow = func(s string, more int) {
		n, ok := Parse(s)
		if want := wellFormed(s); ok != want || !ok && n != 0 {
			t.Errorf("Parse(%q) = %d, %v", s, n, ok)
		}
		if ok {
			read++
		}
		if more > 0 {
			for _, c := range "09.-+ ,a" {
				grow(s+string(c), more-1)
			}
		}
	}
	grow("", 6)
	if read == 0 {
		t.Error("no text was read")
	}
}

// wellFormed is for texts of up to six of the bytes above: whatever has the
// form and is wide has at least five digits ahead of a dot, none of them 0.
func wellFormed(s string) bool {
	points, fraction, dotted := strings.Cut(strings.TrimPrefix(s, "-"), ".")
	if points == "" || strings.Trim(points+fraction, "09") != "" || dotted && fraction == "" {
		return false
	}
	n, _ := strconv.Atoi(points)
	return n < 16384
}

// P1, R1: texts of a great length end in good time.
func TestLongTexts(t *testing.T) {
	const many = 1 << 22
	zeros, nines := strings.Repeat("0", many), strings.Repeat("9", many)
	if n, ok := Parse("-" + zeros + "1.5"); n != -98304 || !ok {
		t.Errorf("many zeros ahead: %d, %v", n, ok)
	}
	for _, s := range []string{
		nines, "-" + nines, "1" + zeros, "65536" + zeros, nines + ".5", "0." + zeros, "0." + nines, "0." + zeros + "1", zeros + "16384",
		strings.Repeat("-", many), strings.Repeat(".", many), strings.Repeat("0.", many), strings.Repeat(" ", many), zeros + "x", nines + "x",
	} {
		if n, ok := Parse(s); n != 0 || ok {
			t.Errorf("%d bytes %q..: %d, %v", len(s), s[:8], n, ok)
		}
	}
}
