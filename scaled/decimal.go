package scaled

import (
	"strconv"
	"strings"

	"variorum/api"
)

const (
	maxDigits = 17                        // behind a dot that is parsed
	tooWide   = api.MaxScaled/api.One + 1 // points: no length of as many fits
)

func Print(n int64) string {
	if !Fits(n) {
		return ""
	}
	whole, rest := size(n)/api.One, size(n)%api.One
	s := strconv.FormatInt(whole, 10) + "." + printFraction(rest)
	if n < 0 {
		return "-" + s
	}
	return s
}

// printFraction tells as few digits as parse back to r. What is left to tell is
// s, with half a scaled point above r; as soon as that is no more than d, which
// is one scaled point, every length that is left lies near enough. The fifth
// digit is the last one: it is rounded, not cut.
func printFraction(r int64) string {
	var digits []byte
	s, d := 10*r+5, int64(10)
	for {
		if d > api.One {
			s += 32768 - 50000
		}
		digits = append(digits, byte('0'+s/api.One))
		s = 10 * (s % api.One)
		d = 10 * d
		if s <= d {
			return string(digits)
		}
	}
}

func Parse(s string) (int64, bool) {
	s, negative := strings.CutPrefix(s, "-")
	points, fraction, dotted := strings.Cut(s, ".")
	n, ok := parsePoints(points)
	if !ok {
		return 0, false
	}
	if dotted {
		part, ok := parseFraction(fraction)
		if !ok {
			return 0, false
		}
		n += part
	}
	if negative {
		n = -n
	}
	return fitted(n)
}

// parsePoints stops counting where nothing fits any more, as there may be any
// number of digits.
func parsePoints(s string) (int64, bool) {
	if !allDigits(s) {
		return 0, false
	}
	var points int64
	for i := range len(s) {
		points = min(10*points+int64(s[i]-'0'), tooWide)
	}
	return points * api.One, true
}

// parseFraction goes from the last digit to the first one, so that what it cuts
// off at each step can't change what the exact value is rounded to.
func parseFraction(s string) (int64, bool) {
	if len(s) > maxDigits || !allDigits(s) {
		return 0, false
	}
	var a int64
	for i := len(s) - 1; i >= 0; i-- {
		a = (a + 2*api.One*int64(s[i]-'0')) / 10
	}
	return (a + 1) / 2, true
}

func allDigits(s string) bool {
	for i := range len(s) {
		if s[i] < '0' || s[i] > '9' {
			return false
		}
	}
	return s != ""
}
