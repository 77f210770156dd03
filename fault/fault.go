// Package fault is layer 1: it wraps faults in named stages, prints the chains
// that result, and parses them. See shared/doc/01-fault.md.
package fault

import (
	"errors"
	"strconv"
	"strings"

	"variorum/api"
)

// What stands between the parts of a chain's text.
const (
	stageEnd  = ": "
	faultWord = "fault "
	atWord    = " at "
)

// Text prints every chain, also one that Read refuses: a stage's name and a
// position are not its to judge.
func Text(f api.Fault, stages []string) string {
	return wrap(f, stages).Error()
}

// Find answers what the chain yields to errors.As, not what it was given, so
// that it tells whether wrapping keeps a fault whole.
func Find(f api.Fault, stages []string) (api.Fault, []string) {
	chain := wrap(f, stages)
	var found failure
	if !errors.As(chain, &found) {
		return api.Fault{}, nil
	}
	return found.Fault, stagesOf(chain)
}

// Has asks by the code alone: the position does not count.
func Has(f api.Fault, stages []string, code api.Errno) bool {
	return errors.Is(wrap(f, stages), failure{api.Fault{Code: code}})
}

// Read cuts at each stage's end: as no valid name contains one, there is only
// one way to read a text.
func Read(s string) (api.Fault, []string, bool) {
	var stages []string
	for {
		name, rest, more := strings.Cut(s, stageEnd)
		if !more {
			break
		}
		if !validName(name) {
			return api.Fault{}, nil, false
		}
		stages = append(stages, name)
		s = rest
	}
	f, ok := readFault(s)
	if !ok {
		return api.Fault{}, nil, false
	}
	return f, stages, true
}

func First(l []api.Fault) (api.Fault, bool) {
	var first api.Fault
	some := false
	for _, f := range l {
		if f.Code == api.OK {
			continue
		}
		if !some || ahead(f, first) {
			first, some = f, true
		}
	}
	return first, some
}

func ahead(a, b api.Fault) bool {
	if a.At != b.At {
		return a.At < b.At
	}
	return a.Code < b.Code
}

func validName(s string) bool {
	for i := range len(s) {
		if s[i] < 'a' || s[i] > 'z' {
			return false
		}
	}
	return s != ""
}

// readFault parses the text of a fault that is in no stage.
func readFault(s string) (api.Fault, bool) {
	numbers, ok := strings.CutPrefix(s, faultWord)
	if !ok {
		return api.Fault{}, false
	}
	codeText, atText, placed := strings.Cut(numbers, atWord)
	code, ok := readNumber(codeText)
	if !ok {
		return api.Fault{}, false
	}
	if !placed {
		return api.Fault{Code: api.Errno(code), At: -1}, true
	}
	at, ok := readNumber(atText)
	if !ok || at < 0 {
		return api.Fault{}, false
	}
	return api.Fault{Code: api.Errno(code), At: at}, true
}

// readNumber accepts a number only as it would be printed: a sign +, a -0 or
// needless zeros would give two texts to one chain.
func readNumber(s string) (int, bool) {
	n, err := strconv.Atoi(s)
	if err != nil || strconv.Itoa(n) != s {
		return 0, false
	}
	return n, true
}
